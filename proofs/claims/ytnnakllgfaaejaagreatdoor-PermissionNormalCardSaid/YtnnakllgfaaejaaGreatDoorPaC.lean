/-
  Paths: Common of both.
-/
import Derived.Test.YtnnakllgfaaejaaGreatDoorPaX
namespace Go.Proofs.YtnnakllgfaaejaaGreatDoor
open Go.RowKit
set_option linter.unusedSimpArgs false
set_option linter.unusedVariables false

theorem path_size {s : ByteArray} {l : List ByteArray} (h : namesS s = some l) : s.size ≤ 10000 := by
  obtain ⟨h1, h2, h3⟩ := pathS_names h
  have hx : ∀ x ∈ l, x.size ≤ 1000 := fun x hx => by
    have := nameL_len (List.all_eq_true.1 h2 x hx)
    have e : x.size = x.data.toList.length := rfl
    omega
  have hs : s.size = s.data.toList.length := rfl
  rw [hs, h1]
  by_cases h0 : l = []
  · subst h0; decide
  · rw [path_data l h0]
    have := pathL_small l hx
    omega
theorem comS_comm : ∀ a b : List ByteArray, comS a b = comS b a
  | [], [] => rfl
  | [], y :: b => rfl
  | x :: a, [] => rfl
  | x :: a, y :: b => by
    unfold comS
    by_cases e : x = y
    · rw [if_pos e, if_pos e.symm, comS_comm a b]
    · rw [if_neg e, if_neg (Ne.symm e)]
theorem comS_take : ∀ (k : Nat) (a b : List ByteArray), comS (a.take k) b = min k (comS a b)
  | 0, a, b => by simp [comS]
  | k + 1, [], b => by simp [comS]
  | k + 1, x :: a, [] => by simp [comS]
  | k + 1, x :: a, y :: b => by
    rw [List.take_succ_cons]
    unfold comS
    by_cases e : x = y
    · rw [if_pos e, if_pos e, comS_take k a b]; omega
    · rw [if_neg e, if_neg e]; omega

/-- The longest path that both lie within. -/
def commonS (p q : ByteArray) : Option ByteArray := match namesS p, namesS q with
  | some a, some b => some (pathS (a.take (comS a b)))
  | _, _ => none

theorem names_take {p : ByteArray} {xs : List ByteArray} (h : namesS p = some xs) (k : Nat) : namesS (pathS (xs.take k)) = some (xs.take k) := by
  obtain ⟨_, h2, h3⟩ := pathS_names h
  refine namesS_path ?_ (by rw [List.length_take]; omega)
  rw [List.all_eq_true] at h2 ⊢
  exact fun x hx => h2 x (List.mem_of_mem_take hx)
theorem within_take {p q : ByteArray} {xs ys : List ByteArray} (hp : namesS p = some xs) (hq : namesS q = some ys) (k : Nat) (hk : k ≤ xs.length) : withinS q (pathS (xs.take k)) = decide (k ≤ comS xs ys) := by
  unfold withinS
  rw [hq, names_take hp k]
  show decide (comS ys (xs.take k) = (xs.take k).length) = _
  rw [comS_comm, comS_take, List.length_take, Bool.eq_iff_iff, decide_eq_true_iff, decide_eq_true_iff]
  omega
theorem parent_take {p : ByteArray} {xs : List ByteArray} (hp : namesS p = some xs) (k : Nat) (h0 : 0 < k) (hk : k ≤ xs.length) : parentS (pathS (xs.take k)) = some (pathS (xs.take (k - 1))) := by
  have hn := names_take hp k
  unfold parentS
  rw [hn]
  cases e : xs.take k with
  | nil => have := congrArg List.length e; rw [List.length_take, List.length_nil] at this; omega
  | cons x t =>
    show some (pathS (x :: t).dropLast) = _
    rw [← e, List.dropLast_eq_take, List.length_take, List.take_take]
    congr 3
    omega

theorem take_size {p : ByteArray} {xs : List ByteArray} (hp : namesS p = some xs) (k : Nat) (hk : k < xs.length) : (pathS (xs.take k)).size < (pathS (xs.take (k + 1))).size := by
  have e : xs.take (k + 1) = xs.take k ++ [xs[k]] := by rw [List.take_add_one, List.getElem?_eq_getElem hk]; rfl
  obtain ⟨_, h2, _⟩ := pathS_names hp
  have hx := nameL_ne (List.all_eq_true.1 h2 xs[k] (List.getElem_mem hk))
  have hxl : 1 ≤ (xs[k]).data.toList.length := List.length_pos_iff.2 hx
  have h1 : (pathS (xs.take (k + 1))).size = ((xs.take k).flatMap fun y => 47 :: y.data.toList).length + 1 + (xs[k]).data.toList.length := by
    show (pathS (xs.take (k + 1))).data.toList.length = _
    rw [e, path_last, List.length_append, List.length_cons]; omega
  rw [h1]
  by_cases h0 : xs.take k = []
  · rw [h0]
    show (pathS []).size < _
    have : (pathS []).size = 1 := rfl
    rw [this]; omega
  · show (pathS (xs.take k)).data.toList.length < _
    rw [path_data _ h0]; omega
def strSz : Value → Nat
  | .string s => s.size
  | _ => 0

end Go.Proofs.YtnnakllgfaaejaaGreatDoor
