/-
  Trees of paths: Add, Has.
-/
import Derived.Test.YtcooacjpblhblaaDoorPaU
namespace Go.Proofs.YtcooacjpblhblaaDoor
open Go.RowKit Go.Maps Go.WideMaps Go.ChangeMaps
set_option linter.unusedSimpArgs false
set_option linter.unusedVariables false

/-- A list with a further path, each once. -/
def insU (ts : List ByteArray) (y : ByteArray) : List ByteArray := if memS y ts = true then ts else y :: ts
theorem mem_insU {ts : List ByteArray} {y s : ByteArray} : s ∈ insU ts y ↔ s = y ∨ s ∈ ts := by
  unfold insU
  split
  · next h => exact ⟨Or.inr, fun e => e.elim (fun e => e ▸ (memS_iff _ _).1 h) id⟩
  · exact List.mem_cons
theorem nodup_insU {ts : List ByteArray} (h : ts.Nodup) (y : ByteArray) : (insU ts y).Nodup := by
  unfold insU
  split
  · exact h
  · next hn => exact List.nodup_cons.2 ⟨fun e => hn ((memS_iff _ _).2 e), h⟩
/-- The tree's paths with so many of the paths above one. -/
def addL (T : Nat → ByteArray) : Nat → List ByteArray → List ByteArray
  | 0, ts => ts
  | k + 1, ts => addL T k (insU ts (T (k + 1)))
theorem nodup_addL (T : Nat → ByteArray) : ∀ (k : Nat) (ts : List ByteArray), ts.Nodup → (addL T k ts).Nodup
  | 0, _, h => h
  | k + 1, ts, h => nodup_addL T k _ (nodup_insU h _)
theorem length_insU (ts : List ByteArray) (y : ByteArray) : (insU ts y).length ≤ ts.length + 1 := by unfold insU; split <;> simp
theorem length_addL (T : Nat → ByteArray) : ∀ (k : Nat) (ts : List ByteArray), (addL T k ts).length ≤ ts.length + k
  | 0, _ => Nat.le_refl _
  | k + 1, ts => by have := length_addL T k (insU ts (T (k + 1))); have := length_insU ts (T (k + 1)); unfold addL; omega

/-- A tree in memory, with a list of its paths but the first one. -/
abbrev TreeL (w : World) (g : Nat) (mv : Value) (ts : List ByteArray) : Prop := TreeAt w g mv (fun s => memS s ts) ts.length

theorem mapB_ins {D : DataW Unit} {ts : List ByteArray} {y : ByteArray} (h : MapB D (fun s => memS s ts)) (hD : IsMap D) : MapB (D.put (.string y.data.toList) (.lit (.bool true))) (fun s => memS s (insU ts y)) := by
  have e : (fun s => memS s (insU ts y)) = fun s => (decide (s = y) || memS s ts) := by
    funext s
    rw [Bool.eq_iff_iff]
    rw [memS_iff, Bool.or_eq_true, decide_eq_true_iff, memS_iff, mem_insU]
  rw [e]
  exact h.put y hD
theorem size_ins {D : DataW Unit} {ts : List ByteArray} {y : ByteArray} (h : MapB D (fun s => memS s ts)) (hD : Tidy D) (hs : Maps.size D = ts.length) : Maps.size (D.put (.string y.data.toList) (.lit (.bool true))) = (insU ts y).length := by
  rw [Maps.size_put hD, (h y).1, hs]
  unfold insU
  cases e : memS y ts with
  | true => simp [e]
  | false => simp [e]

theorem names_root : namesS (⟨#[47]⟩ : ByteArray) = some [] := namesS_root
theorem path_ne_root {p : ByteArray} {xs : List ByteArray} (hp : namesS p = some xs) (k : Nat) (h0 : 0 < k) (hk : k ≤ xs.length) : ¬ (pathS (xs.take k)).toList = [47] := by
  intro e
  have hn := names_take hp k
  have : pathS (xs.take k) = ⟨#[47]⟩ := data_inj (by rw [← ByteArray.toList_eq]; exact e)
  rw [this, names_root] at hn
  injection hn with hn
  have := congrArg List.length hn
  rw [List.length_take, List.length_nil] at this
  omega

end Go.Proofs.YtcooacjpblhblaaDoor
