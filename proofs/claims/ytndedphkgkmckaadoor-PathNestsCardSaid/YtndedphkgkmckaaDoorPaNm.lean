/-
  Plain words of PathNests: the numbers of the paths within one of them, as a mask.
-/
import Derived.Test.YtndedphkgkmckaaDoorPaOm
import Derived.Test.YtndedphkgkmckaaDoorBOpM
import Derived.Test.YtndedphkgkmckaaDoorQWith
namespace Go.Proofs.YtndedphkgkmckaaDoor
open Go.RowKit
set_option linter.unusedSimpArgs false
set_option linter.unusedVariables false

/-- The numbers below k of the paths within q. -/
def nestM (ps : List ByteArray) (q : ByteArray) : Nat → Nat
  | 0 => 0
  | k + 1 => if withinS (ps.getD k ⟨#[]⟩) q = true then nestM ps q k ||| 2 ^ k else nestM ps q k
theorem nestM_bit (ps : List ByteArray) (q : ByteArray) (i : Nat) : ∀ k, (nestM ps q k).testBit i = (decide (i < k) && withinS (ps.getD i ⟨#[]⟩) q)
  | 0 => by simp [nestM]
  | k + 1 => by
    have ih := nestM_bit ps q i k
    unfold nestM
    by_cases e : i = k
    · subst e
      split
      · next h => rw [Nat.testBit_or, ih, Nat.testBit_two_pow_self, h]; simp
      · next h => rw [ih]; simp; cases hb : withinS (ps.getD i ⟨#[]⟩) q with
        | false => simpa [List.getD] using hb
        | true => exact absurd hb h
    · have e1 : decide (i < k + 1) = decide (i < k) := decide_eq_decide.2 (by omega)
      split
      · rw [Nat.testBit_or, ih, Nat.testBit_two_pow_of_ne (fun h => e h.symm), e1]; simp
      · rw [ih, e1]
theorem nestM_small (ps : List ByteArray) (q : ByteArray) : ∀ k, k ≤ 4096 → Small (nestM ps q k)
  | 0, _ => fun e _ => Nat.pow_pos (by omega)
  | k + 1, h => by
    unfold nestM
    split
    · exact small_with (nestM_small ps q k (by omega)) (by omega)
    · exact nestM_small ps q k (by omega)

theorem within_pre {p q : ByteArray} {xs ys : List ByteArray} (hp : namesS p = some xs) (hq : namesS q = some ys) : withinS p q = true ↔ ys <+: xs := by
  rw [within_names hp hq, List.prefix_iff_eq_take]
  constructor
  · exact fun h => h.2
  · intro h
    refine ⟨?_, h⟩
    have := congrArg List.length h
    rw [List.length_take] at this
    omega
theorem within_self {p : ByteArray} (h : IsPath p) : withinS p p = true := by
  obtain ⟨l, hl⟩ := isPath_names h
  rw [within_pre hl hl]
  exact List.prefix_refl _
theorem within_trans {p q r : ByteArray} (hp : IsPath p) (hq : IsPath q) (hr : IsPath r) (h1 : withinS p q = true) (h2 : withinS q r = true) : withinS p r = true := by
  obtain ⟨a, ha⟩ := isPath_names hp
  obtain ⟨b, hb⟩ := isPath_names hq
  obtain ⟨c, hc⟩ := isPath_names hr
  rw [within_pre ha hb] at h1
  rw [within_pre hb hc] at h2
  rw [within_pre ha hc]
  exact h2.trans h1
theorem within_both {p q r : ByteArray} (hp : IsPath p) (hq : IsPath q) (hr : IsPath r) (h1 : withinS p q = true) (h2 : withinS p r = true) : withinS q r = true ∨ withinS r q = true := by
  obtain ⟨a, ha⟩ := isPath_names hp
  obtain ⟨b, hb⟩ := isPath_names hq
  obtain ⟨c, hc⟩ := isPath_names hr
  rw [within_pre ha hb] at h1
  rw [within_pre ha hc] at h2
  rw [within_pre hb hc, within_pre hc hb]
  exact (List.prefix_or_prefix_of_prefix h1 h2).symm

theorem anN_zero_iff (M K : Nat) : anN M K = 0 ↔ ∀ i, M.testBit i = true → K.testBit i = true := by
  constructor
  · intro h i hi
    have := congrArg (fun n => n.testBit i) h
    simp only [anN_bit, Nat.zero_testBit, hi, Bool.true_and] at this
    simpa using this
  · intro h
    refine Nat.eq_of_testBit_eq fun i => ?_
    rw [anN_bit, Nat.zero_testBit]
    cases hm : M.testBit i with
    | false => rfl
    | true => rw [h i hm]; rfl
theorem and_bit {M K : Nat} (h : M &&& K ≠ 0) : ∃ i, M.testBit i = true ∧ K.testBit i = true := by
  apply Classical.byContradiction
  intro hn
  apply h
  refine Nat.eq_of_testBit_eq fun i => ?_
  rw [Nat.testBit_and, Nat.zero_testBit]
  cases hm : M.testBit i with
  | false => rfl
  | true =>
    cases hk : K.testBit i with
    | false => rfl
    | true => exact absurd ⟨i, hm, hk⟩ hn

/-- What the law asks of the sets of two of the paths. -/
structure NestF (ps : List ByteArray) (i j : Nat) (M K : Nat) : Prop where
  has : M.testBit i = true
  nest : (decide (M &&& K ≠ 0) && (!decide (anN M K = 0)) && (!decide (anN K M = 0))) = false
  same : decide (anN M K = 0) = withinS (ps.getD i ⟨#[]⟩) (ps.getD j ⟨#[]⟩)

theorem nestF {ps : List ByteArray} {n : Nat} (hp : ∀ k, k < n → IsPath (ps.getD k ⟨#[]⟩)) {i j : Nat} (hi : i < n) (hj : j < n) : NestF ps i j (nestM ps (ps.getD i ⟨#[]⟩) n) (nestM ps (ps.getD j ⟨#[]⟩) n) := by
  have sub : ∀ a b, a < n → b < n → (anN (nestM ps (ps.getD a ⟨#[]⟩) n) (nestM ps (ps.getD b ⟨#[]⟩) n) = 0 ↔ withinS (ps.getD a ⟨#[]⟩) (ps.getD b ⟨#[]⟩) = true) := by
    intro a b ha hb
    rw [anN_zero_iff]
    constructor
    · intro h
      have := h a (by rw [nestM_bit]; simp only [ha, decide_true, Bool.true_and]; exact within_self (hp a ha))
      rw [nestM_bit] at this
      simp only [ha, decide_true, Bool.true_and] at this
      exact this
    · intro h k hk
      rw [nestM_bit, Bool.and_eq_true, decide_eq_true_iff] at hk ⊢
      exact ⟨hk.1, within_trans (hp k hk.1) (hp a ha) (hp b hb) hk.2 h⟩
  refine ⟨?_, ?_, ?_⟩
  · rw [nestM_bit]; simp only [hi, decide_true, Bool.true_and]; exact within_self (hp i hi)
  · by_cases h0 : nestM ps (ps.getD i ⟨#[]⟩) n &&& nestM ps (ps.getD j ⟨#[]⟩) n ≠ 0
    · obtain ⟨k, h1, h2⟩ := and_bit h0
      rw [nestM_bit, Bool.and_eq_true, decide_eq_true_iff] at h1 h2
      rcases within_both (hp k h1.1) (hp i hi) (hp j hj) h1.2 h2.2 with h | h
      · rw [decide_eq_true ((sub i j hi hj).2 h)]; simp
      · rw [decide_eq_true ((sub j i hj hi).2 h)]; simp
    · rw [decide_eq_false h0]; rfl
  · cases hb : withinS (ps.getD i ⟨#[]⟩) (ps.getD j ⟨#[]⟩) with
    | true => rw [decide_eq_true_iff]; exact (sub i j hi hj).2 hb
    | false => rw [decide_eq_false_iff_not]; intro h; rw [(sub i j hi hj).1 h] at hb; cases hb
end Go.Proofs.YtndedphkgkmckaaDoor
