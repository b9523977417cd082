/-
  The reference's order: Less.
-/
import Derived.Test.YtnnakllgfaaejaaGreatDoorPaLe
import Derived.Test.YtnnakllgfaaejaaGreatDoorPaC
namespace Go.Proofs.YtnnakllgfaaejaaGreatDoor
open Go.RowKit
set_option linter.unusedSimpArgs false
set_option linter.unusedVariables false

theorem cmpN_end {a b : List ByteArray} (he : comS a b = a.length ∨ comS a b = b.length) : decide (cmpN a b = -1) = decide (a.length < b.length) := by
  have hg := comS_get a b
  have hle := comS_le a b
  rcases Nat.lt_trichotomy a.length b.length with h | h | h
  · have hk : comS a b = a.length := by omega
    rw [cmpN_right (fun i hi => hg i (by omega)) h]; simp [h]
  · have hk : comS a b = a.length := by omega
    rw [cmpN_same (fun i hi => hg i (by omega)) h]; simp [h]
  · have hk : comS a b = b.length := by omega
    rw [cmpN_left (fun i hi => hg i (by omega)) h]; simp; omega

theorem cmpN_mid {a b : List ByteArray} (h1 : comS a b < a.length) (h2 : comS a b < b.length) : decide (cmpN a b = -1) = lessB (a.getD (comS a b) ⟨#[]⟩) (b.getD (comS a b) ⟨#[]⟩) := by
  rw [cmpN_stop (comS_get a b) h1 h2 fun e => comS_stop a b h1 h2 (cmpB_zero.1 e)]
  rfl

theorem names_size {s : ByteArray} {l : List ByteArray} (h : namesS s = some l) {x : ByteArray} (hx : x ∈ l) : x.size ≤ 12 := by
  obtain ⟨_, h2, _⟩ := pathS_names h
  have := nameL_len (List.all_eq_true.1 h2 x hx)
  have e : x.size = x.data.toList.length := rfl
  omega

end Go.Proofs.YtnnakllgfaaejaaGreatDoor
