/-
  slices.SortFunc of a row of paths of the call's own: the row then reads as the ascending list of the same paths.
-/
import Derived.Test.YtcooacjpblhblaaDoorPaSo
namespace Go.Proofs.YtcooacjpblhblaaDoor
open Go.RowKit Go.Shelf Go.Sort
set_option linter.unusedSimpArgs false
set_option linter.unusedVariables false
set_option maxRecDepth 100000

/-- Texts that are paths, with the reason. -/
def withP (l : List ByteArray) (h : ∀ x ∈ l, IsPath x) : List PathT := l.pmap (fun x hx => ⟨x, hx⟩) h
theorem withP_val (l : List ByteArray) (h : ∀ x ∈ l, IsPath x) : (withP l h).map (·.val) = l := by
  unfold withP
  rw [List.map_pmap]
  simp
theorem sortL_mem (l : List PathT) (x : ByteArray) : x ∈ sortL l ↔ x ∈ l.map (·.val) := by
  unfold sortL
  rw [List.mem_map, List.mem_map]
  constructor
  · rintro ⟨y, hy, rfl⟩; exact ⟨y, (List.mergeSort_perm _ _).mem_iff.1 hy, rfl⟩
  · rintro ⟨y, hy, rfl⟩; exact ⟨y, (List.mergeSort_perm _ _).mem_iff.2 hy, rfl⟩
theorem sortL_length (l : List PathT) : (sortL l).length = l.length := by unfold sortL; rw [List.length_map, (List.mergeSort_perm _ _).length_eq]
theorem sortL_sorted (l : List PathT) (hn : (l.map (·.val)).Nodup) : SortedP (sortL l) := by
  refine ⟨?_, fun x hx => ?_⟩
  · have h1 := List.pairwise_mergeSort (le := fun x y : PathT => !(ltOf cfP) y x) (fun a b c h1 h2 => by
      simp only [Bool.not_eq_true'] at h1 h2 ⊢
      exact swoP.ntrans c b a h2 h1) (fun a b => by
      cases e1 : ltOf cfP b a with
      | false => simp
      | true =>
        cases e2 : ltOf cfP a b with
        | false => simp
        | true => have := swoP.trans _ _ _ e1 e2; rw [swoP.irrefl] at this; cases this) l
    have hn2 : l.Nodup := List.Pairwise.of_map (S := fun a b : ByteArray => a ≠ b) (fun x : PathT => x.val) (fun a b h e => h (by rw [e])) hn
    have h2 : (l.mergeSort fun x y => !(ltOf cfP) y x).Nodup := (List.mergeSort_perm _ _).nodup_iff.2 hn2
    refine List.Pairwise.map (R := fun a b : PathT => (!(ltOf cfP) b a) = true ∧ a ≠ b) _ (fun a b h => ?_) (h1.and h2)
    obtain ⟨h3, h4⟩ := h
    simp only [Bool.not_eq_true'] at h3
    cases e : ltOf cfP a b with
    | true => exact (ltP a b).1 e
    | false => exact absurd (totP a b e h3) h4
  · rw [sortL_mem] at hx
    obtain ⟨y, _, rfl⟩ := List.mem_map.1 hx
    exact y.property

end Go.Proofs.YtcooacjpblhblaaDoor
