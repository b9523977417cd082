/-
  arbaclaw15.TokenScans returns true.
-/
import Derived.Test.YthkjcgcfbodgbaaDoorTkT
import Derived.Test.YthkjcgcfbodgbaaDoorTkU
namespace Go.Proofs.YthkjcgcfbodgbaaDoor
open Go.RowKit Go.Shelf
set_option linter.unusedSimpArgs false
set_option linter.unusedVariables false

theorem kind_lt (s : ByteArray) : ∀ x ∈ (scanS s).1, x.k < 256 := by
  have hk : ∀ l, (firstT l).1 ≤ 3 := fun l => by
    cases l with
    | nil => exact Nat.zero_le 3
    | cons c t =>
      unfold firstT
      simp only
      repeat' split
      all_goals first | exact Nat.le_refl 3 | exact Nat.zero_le 3 | exact Nat.le_succ 2 | exact Nat.le_add_left 1 2
  have hf : ∀ (L : List Nat) (f i : Nat), ∀ x ∈ (scanF L f i).1, x.1 ≤ 3 := fun L f => by
    induction f with
    | zero => intro i x hx; simp [scanF] at hx
    | succ f ih =>
      intro i x hx
      rw [scanF] at hx
      split at hx
      · split at hx
        · simp at hx
        · simp only [List.mem_cons] at hx
          rcases hx with rfl | hx
          · exact hk _
          · exact ih _ x hx
      · simp at hx
  intro x hx
  unfold scanS at hx
  split at hx
  · simp at hx
  · split at hx
    · simp at hx
    · simp only [List.mem_append, List.mem_map, List.mem_singleton] at hx
      rcases hx with ⟨y, hy, rfl⟩ | rfl
      · have := hf _ _ _ y hy
        show y.1 < 256
        omega
      · exact Nat.zero_lt_succ 255
theorem kind_at (s : ByteArray) : ∀ i, i < (scanS s).1.length → ((scanS s).1.getD i tok0).k < 256 := fun i hi => by
  have e : (scanS s).1.getD i tok0 = (scanS s).1[i] := by simp [List.getD, hi]
  rw [e]
  exact kind_lt s _ (List.getElem_mem _)

end Go.Proofs.YthkjcgcfbodgbaaDoor
