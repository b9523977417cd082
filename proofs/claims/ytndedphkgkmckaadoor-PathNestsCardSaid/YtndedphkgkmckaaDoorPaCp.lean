/-
  arbaclaw07.PathCompares: the walk of the law.
-/
import Derived.Test.YtndedphkgkmckaaDoorPaAk
import Derived.Test.YtndedphkgkmckaaDoorPaLs
import Derived.Test.YtndedphkgkmckaaDoorPaQ
namespace Go.Proofs.YtndedphkgkmckaaDoor
open Go.RowKit Go.Maps Go.WideMaps Go.ChangeMaps
set_option linter.unusedSimpArgs false
set_option linter.unusedVariables false

theorem cmpN_vals : ∀ a b : List ByteArray, cmpN a b = -1 ∨ cmpN a b = 0 ∨ cmpN a b = 1
  | [], [] => by simp [cmpN]
  | [], _ :: _ => by simp [cmpN]
  | _ :: _, [] => by simp [cmpN]
  | x :: a, y :: b => by
    unfold cmpN
    split
    · exact cmpN_vals a b
    · exact cb_vals _ _
theorem compareT_vals (p q : ByteArray) : compareS p q = -1 ∨ compareS p q = 0 ∨ compareS p q = 1 := by
  unfold compareS
  cases namesS p <;> cases namesS q
  · exact cb_vals _ _
  · simp
  · simp
  · exact cmpN_vals _ _
theorem compareT_swap (p q : ByteArray) : compareS q p = - compareS p q := by
  unfold compareS
  cases namesS p <;> cases namesS q
  · exact cmpB_swap _ _
  · rfl
  · rfl
  · exact cmpN_swap _ _

end Go.Proofs.YtndedphkgkmckaaDoor
