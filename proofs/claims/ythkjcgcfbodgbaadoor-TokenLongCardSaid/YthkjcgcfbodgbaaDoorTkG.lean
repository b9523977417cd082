/-
  Tokens: the reference's tests of one byte, and its skip.
-/
import Derived.Test.YthkjcgcfbodgbaaDoorTkF
namespace Go.Proofs.YthkjcgcfbodgbaaDoor
open Go.RowKit
set_option linter.unusedSimpArgs false
set_option linter.unusedVariables false

set_option maxRecDepth 100000 in
theorem rletter_any (c : Nat) (w : World) : Calls Tryd.prog 72 #[.int .u8 c] w fun e w' => e = .returned (.bool (letB c)) ∧ w = w' := by
  by_cases h1 : 97 ≤ c
  · have t1 : (97 : Int) ≤ c := by omega
    by_cases h2 : c ≤ 122
    · have t2 : (c : Int) ≤ 122 := by omega
      have hr : letB c = true := by simp [letB, h1, h2]
      go_enter Tryd.func72, Tryd.ntmps72
      go_wp2_with fail
      go_ret
      exact ⟨by first | rfl | (rw [hr]; rfl), rfl⟩
    · have t2 : ¬ (c : Int) ≤ 122 := by omega
      have hr : letB c = false := by simp [letB, h2]
      go_enter Tryd.func72, Tryd.ntmps72
      go_wp2_with fail
      go_ret
      exact ⟨by first | rfl | (rw [hr]; rfl), rfl⟩
  · have t1 : ¬ (97 : Int) ≤ c := by omega
    have hr : letB c = false := by simp [letB, h1]
    go_enter Tryd.func72, Tryd.ntmps72
    go_wp2_with fail
    go_ret
    exact ⟨by first | rfl | (rw [hr]; rfl), rfl⟩

set_option maxRecDepth 100000 in
theorem rdigit_any (c : Nat) (w : World) : Calls Tryd.prog 73 #[.int .u8 c] w fun e w' => e = .returned (.bool (digB c)) ∧ w = w' := by
  by_cases h1 : 48 ≤ c
  · have t1 : (48 : Int) ≤ c := by omega
    by_cases h2 : c ≤ 57
    · have t2 : (c : Int) ≤ 57 := by omega
      have hr : digB c = true := by simp [digB, h1, h2]
      go_enter Tryd.func73, Tryd.ntmps73
      go_wp2_with fail
      go_ret
      exact ⟨by first | rfl | (rw [hr]; rfl), rfl⟩
    · have t2 : ¬ (c : Int) ≤ 57 := by omega
      have hr : digB c = false := by simp [digB, h2]
      go_enter Tryd.func73, Tryd.ntmps73
      go_wp2_with fail
      go_ret
      exact ⟨by first | rfl | (rw [hr]; rfl), rfl⟩
  · have t1 : ¬ (48 : Int) ≤ c := by omega
    have hr : digB c = false := by simp [digB, h1]
    go_enter Tryd.func73, Tryd.ntmps73
    go_wp2_with fail
    go_ret
    exact ⟨by first | rfl | (rw [hr]; rfl), rfl⟩

set_option maxRecDepth 100000 in
theorem rblank_any (c : Nat) (w : World) : Calls Tryd.prog 98 #[.int .u8 c] w fun e w' => e = .returned (.bool (blankB c)) ∧ w = w' := by
  have hcase : (c = 32 ∨ c = 9 ∨ c = 10 ∨ c = 13) ∨ (c ≠ 32 ∧ c ≠ 9 ∧ c ≠ 10 ∧ c ≠ 13) := by omega
  rcases hcase with hbl | ⟨n1, n2, n3, n4⟩
  · rcases hbl with rfl | rfl | rfl | rfl
    all_goals
      show Calls _ _ _ _ fun e w' => e = .returned (.bool true) ∧ _
      go_enter Tryd.func98, Tryd.ntmps98
      go_wp2_with fail
      go_ret
      exact ⟨rfl, rfl⟩
  · have hr : blankB c = false := by simp [blankB, n1, n2, n3, n4]
    rw [hr]
    have b1 : ((c : Int) == 32) = false := beq_eq_false_iff_ne.2 (by omega)
    have b2 : ((c : Int) == 9) = false := beq_eq_false_iff_ne.2 (by omega)
    have b3 : ((c : Int) == 10) = false := beq_eq_false_iff_ne.2 (by omega)
    have b4 : ((c : Int) == 13) = false := beq_eq_false_iff_ne.2 (by omega)
    clear hr
    go_enter Tryd.func98, Tryd.ntmps98
    go_wp2_with fail
    go_ret
    exact ⟨rfl, rfl⟩
end Go.Proofs.YthkjcgcfbodgbaaDoor
