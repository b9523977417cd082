/-
  The reference of keccak: rotl, turns, rounds.
-/
import Derived.Test.YtncieckanngodaaDoorKecR
import Derived.Test.YtncieckanngodaaDoorKecP
import Derived.Laws.MakeOwn
namespace Go.Proofs.YtncieckanngodaaDoor
open Go.RowKit

set_option maxRecDepth 100000 in
set_option maxHeartbeats 800000 in
theorem rotl_any (x k : Nat) (w : World) (hx : x < 2 ^ 64) (hk : k < 64) :
    Calls Tryd.prog 64 #[.int .u64 x, .int .i64 k] w fun e w' => e = .returned (.int .u64 (rol x k : Nat)) ∧ ∃ m, w' = w.drewN m := by
  have hk0 : (0 : Int) ≤ (k : Int) := by omega
  have hk1 : (k : Int) ≤ 64 := by omega
  have hk2 : (k : Int) < 64 := by omega
  have hs : IntKind.i64.wrap (64 - (k : Int)) = 64 - (k : Int) := IntWalk.i64_in _ (by omega)
  have hs0 : (0 : Int) ≤ 64 - (k : Int) := by omega
  have ht : (64 - (k : Int)).toNat = 64 - k := by omega
  have HR := Lib.hid (rol_walk x k hx)
  go_enter Tryd.func64, Tryd.ntmps64
  go_wp2_with fail
  go_quiet (fail)
  go_wp2_with fail
  go_ret
  exact ⟨ret_intK HR.out, _, rfl⟩

def trnI : List Value := trn.map fun n : Nat => Value.int .i64 (n : Int)
set_option maxRecDepth 100000 in
set_option maxHeartbeats 800000 in
theorem turns_any (w : World) :
    Calls Tryd.prog 65 #[] w fun e w' => e = .returned (.slice (some ⟨w.heap.size, 0, none⟩) 25 25) ∧ w' = w.alloc (.cells trnI.toArray 3) := by
  go_enter Tryd.func65, Tryd.ntmps65
  go_wp2_with fail
  go_ret
  exact ⟨rfl, rfl⟩

set_option maxRecDepth 100000 in
set_option maxHeartbeats 800000 in
theorem rounds_any (w : World) :
    Calls Tryd.prog 38 #[] w fun e w' => e = .returned (.slice (some ⟨w.heap.size, 0, none⟩) 24 24) ∧ w' = w.alloc (.cells (arr rcs).toArray 29) := by
  go_enter Tryd.func38, Tryd.ntmps38
  go_wp2_with fail
  go_ret
  exact ⟨rfl, rfl⟩
end Go.Proofs.YtncieckanngodaaDoor
