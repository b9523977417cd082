/-
  membership: Len, Users.
-/
import Derived.Test.YtccanbjnbmihgaaDoorMbU
import Derived.Test.YtccanbjnbmihgaaDoorOf
namespace Go.Proofs.YtccanbjnbmihgaaDoor
open Go.RowKit Go.Shelf
set_option linter.unusedVariables false
set_option linter.unusedSimpArgs false

def lenTo (H : Nat → List Ent) (k : Nat) : Nat := ((List.range k).flatMap H).length
theorem lenTo_succ (H : Nat → List Ent) (k : Nat) : lenTo H (k + 1) = lenTo H k + (H k).length := by
  unfold lenTo; rw [List.range_succ, List.flatMap_append, List.length_append]; simp
theorem lenTo_le {H : Nat → List Ent} {M : Nat} : ∀ k, (∀ u, u < k → (H u).length ≤ M) → lenTo H k ≤ k * M
  | 0, _ => by simp [lenTo]
  | k + 1, h => by
    rw [lenTo_succ, Nat.add_mul, Nat.one_mul]
    exact Nat.add_le_add (lenTo_le k (fun u hu => h u (by omega))) (h k (by omega))

set_option maxRecDepth 100000 in
set_option maxHeartbeats 3200000 in
theorem len_none (w : World) : Calls Tryd.prog 36 #[.pointer none] w fun e w' => e = .returned (.int .i64 0) ∧ w = w' := by
  go_enter Tryd.func36, Tryd.ntmps36
  go_wp2_with fail
  go_ret
  exact ⟨rfl, rfl⟩
end Go.Proofs.YtccanbjnbmihgaaDoor
