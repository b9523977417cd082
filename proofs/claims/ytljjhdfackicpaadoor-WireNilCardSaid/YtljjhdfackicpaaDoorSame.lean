/-
  arbacref02.Same: two byte strings held against each other.
-/
import Derived.Test.YtljjhdfackicpaaDoorMake
namespace Go.Proofs.YtljjhdfackicpaaDoor
open Go.RowKit

set_option maxRecDepth 100000 in
set_option maxHeartbeats 400000 in
theorem same_any (w : World) (a b : Value) (xs ys : List Nat) (ha : Reads w a xs) (hb : Reads w b ys) (hx : ∀ b ∈ xs, b < 256) (hy : ∀ b ∈ ys, b < 256) :
    Calls Tryd.prog 85 #[a, b] w fun e w' => e = .returned (.bool (decide (xs = ys))) ∧ w = w' := by
  have h1 := reads_str ha
  have h2 := reads_str hb
  have hi := str_inj hx hy
  generalize strOfNums (xs.map fun n : Nat => (n : Int)) = A at h1 hi
  generalize strOfNums (ys.map fun n : Nat => (n : Int)) = B at h2 hi
  have HI := Lib.hid hi; clear hi
  clear ha hb hx hy
  go_enter Tryd.func85, Tryd.ntmps85
  go_wp2_with fail
  go_ret
  have hb : (A.toList == B.toList) = decide (xs = ys) := by
    rw [Bool.eq_iff_iff, beq_iff_eq, decide_eq_true_iff, ← HI.out, ByteArray.toList_eq, ByteArray.toList_eq]
    constructor
    · intro h
      cases A; cases B
      simp only [ByteArray.mk.injEq]
      exact Array.ext' h
    · intro h; rw [h]
  rw [hb]
  exact ⟨rfl, rfl⟩

end Go.Proofs.YtljjhdfackicpaaDoor
