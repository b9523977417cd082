/-
  Tokens: how many tokens a source has at most.
-/
import Derived.Test.YthkjcgcfbodgbaaDoorTkL
namespace Go.Proofs.YthkjcgcfbodgbaaDoor
open Go.RowKit
theorem scanF_len (L : List Nat) : ∀ f i, (scanF L f i).1.length ≤ f
  | 0, i => by simp [scanF]
  | f + 1, i => by
    rw [scanF]
    split
    · split
      · simp
      · have := scanF_len L f (skipT L (i + (firstT (L.drop i)).2.1))
        simp only [List.length_cons]; omega
    · simp
theorem scanS_len (s : ByteArray) : (scanS s).1.length ≤ s.size + 2 := by
  unfold scanS
  split
  · simp
  · split
    · simp
    · have := scanF_len (strB s) (s.size + 1) (skipT (strB s) 0)
      simp only [List.length_append, List.length_map, List.length_cons, List.length_nil]
      unfold scanL; omega

end Go.Proofs.YthkjcgcfbodgbaaDoor
