/-
  arbac/keccak: New, Len. (As in KecY.)
-/
import Derived.Test.YtncieckanngodaaDoorKecN
namespace Go.Proofs.YtncieckanngodaaDoor
open Go.RowKit

set_option maxRecDepth 100000 in
set_option maxHeartbeats 400000 in
theorem new_any (w : World) : Calls Tryd.prog 8 #[] w fun e w' => e = .returned (.pointer (some ⟨w.heap.size, 0, none⟩)) ∧ HashAt w' w.heap.size 0 [] ∧ Kept (fun _ => False) w w' ∧ w.heap.size < w'.heap.size := by
  have hh := hash_new w hash0.toArray 74 (by simp)
  have HH := Lib.hid hh; clear hh
  go_enter Tryd.func8, Tryd.ntmps8
  go_wp2_with fail
  go_ret
  exact ⟨rfl, HH.out, Kept.alloc _ _ _, by simp⟩

set_option maxRecDepth 100000 in
theorem len_any (w : World) (g off : Nat) (xs : List Nat) (hh : HashAt w g off xs) : Calls Tryd.prog 11 #[.pointer (some ⟨g, off, none⟩)] w fun e w' => e = .returned (.int .u64 (xs.length : Nat)) ∧ w = w' := by
  have hl := hh.len
  clear hh
  go_enter Tryd.func11, Tryd.ntmps11
  go_wp2_with fail
  go_ret
  exact ⟨rfl, rfl⟩

end Go.Proofs.YtncieckanngodaaDoor
