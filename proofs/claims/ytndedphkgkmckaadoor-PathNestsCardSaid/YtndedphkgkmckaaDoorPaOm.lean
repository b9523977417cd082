/-
  Plain words on the order of paths: what PathOrders asks.
-/
import Derived.Test.YtndedphkgkmckaaDoorPaMk
import Derived.Test.YtndedphkgkmckaaDoorPaCp
import Derived.Test.YtndedphkgkmckaaDoorPaX
namespace Go.Proofs.YtndedphkgkmckaaDoor
open Go.RowKit
set_option linter.unusedSimpArgs false
set_option linter.unusedVariables false

theorem within_names {p q : ByteArray} {xs ys : List ByteArray} (hp : namesS p = some xs) (hq : namesS q = some ys) : withinS p q = true ↔ ys.length ≤ xs.length ∧ ys = xs.take ys.length := by
  unfold withinS
  rw [hp, hq]
  simp only [decide_eq_true_iff]
  exact comS_whole xs ys

theorem cmpN_prefix {a b : List ByteArray} (h : a.length ≤ b.length ∧ a = b.take a.length) : cmpN a b ≤ 0 := by
  have hg : ∀ i, i < a.length → a.getD i ⟨#[]⟩ = b.getD i ⟨#[]⟩ := fun i hi => by
    rw [h.2]
    simp [List.getD, List.getElem?_take, hi]
  rcases Nat.lt_or_ge a.length b.length with h1 | h1
  · rw [cmpN_right hg h1]; omega
  · rw [cmpN_same hg (by omega)]; omega

theorem prefix_mid : ∀ a b c : List ByteArray, cmpN a b ≤ 0 → cmpN b c ≤ 0 → (a.length ≤ c.length ∧ a = c.take a.length) → (a.length ≤ b.length ∧ a = b.take a.length)
  | [], b, c, _, _, _ => ⟨by simp, by simp⟩
  | x :: a, [], c, h, _, _ => by simp [cmpN] at h
  | x :: a, y :: b, [], _, _, h => by simp at h
  | x :: a, y :: b, z :: c, h1, h2, h3 => by
    have h4 := h3.2
    simp at h4
    obtain ⟨rfl, h4⟩ := h4
    unfold cmpN at h1 h2
    have hs := cmpB_swap x y
    by_cases e : cmpB x y = 0
    · have exy := cmpB_zero.1 e
      subst exy
      rw [if_pos e] at h1 h2
      have := prefix_mid a b c h1 h2 ⟨by have := h3.1; simp at this; omega, h4⟩
      refine ⟨by simp; exact this.1, ?_⟩
      simp
      exact this.2
    · rw [if_neg e] at h1
      rw [if_neg (by omega)] at h2
      omega

/-- What the law asks of three paths. -/
structure OrdF (a b c d : ByteArray) : Prop where
  trans : compareS a b ≤ 0 → compareS b c ≤ 0 → compareS a c ≤ 0
  same : compareS a b = 0 → a = b
  up : withinS b a = true → compareS a b ≤ 0
  mid : withinS c a = true → compareS a b ≤ 0 → compareS b c ≤ 0 → withinS b a = true
  com : commonS a b = some d
  da : withinS a d = true
  db : withinS b d = true
  least : withinS a c = true → withinS b c = true → withinS d c = true

theorem ordF {a b c : ByteArray} (ha : IsPath a) (hb : IsPath b) (hc : IsPath c) : ∃ d, OrdF a b c d ∧ d.size ≤ 10000 := by
  obtain ⟨la, hla⟩ := isPath_names ha
  obtain ⟨lb, hlb⟩ := isPath_names hb
  obtain ⟨lc, hlc⟩ := isPath_names hc
  have e1 : compareS a b = cmpN la lb := by unfold compareS; rw [hla, hlb]
  have e2 : compareS b c = cmpN lb lc := by unfold compareS; rw [hlb, hlc]
  have hz := compareS_zero ha hb
  refine ⟨pathS (la.take (comS la lb)), ⟨fun h1 h2 => ?_, fun h => hz.1 h, fun h => ?_, fun h h1 h2 => ?_, ?_, ?_, ?_, fun h1 h2 => ?_⟩, path_size (names_take hla _)⟩
  · by_cases h3 : compareS a b = 0
    · rw [hz.1 h3] at *; exact h2
    · by_cases h4 : compareS b c = 0
      · rw [← (compareS_zero hb hc).1 h4] at *; exact h1
      · have := compareS_trans ha hb hc (by omega) (by omega); omega
  · rw [within_names hlb hla] at h
    rw [e1]; exact cmpN_prefix h
  · rw [within_names hlc hla] at h
    rw [within_names hlb hla]
    rw [e1] at h1
    rw [e2] at h2
    exact prefix_mid la lb lc h1 h2 h
  · unfold commonS; rw [hla, hlb]
  · rw [within_take hla hla _ (comS_le la lb).1]
    have := (comS_whole la la).2 ⟨Nat.le_refl _, by simp⟩
    simp; rw [this]; exact (comS_le la lb).1
  · rw [within_take hla hlb _ (comS_le la lb).1]
    simp
  · rw [within_names hla hlc] at h1
    have hcc : c = pathS (la.take lc.length) := by rw [← h1.2]; exact (pathS_names hlc).1
    have h3 : withinS b (pathS (la.take lc.length)) = true := by rw [← hcc]; exact h2
    rw [within_take hla hlb _ h1.1] at h3
    simp at h3
    rw [within_names (names_take hla _) hlc]
    refine ⟨by rw [List.length_take]; omega, ?_⟩
    rw [List.take_take, Nat.min_eq_left h3]
    exact h1.2
end Go.Proofs.YtndedphkgkmckaaDoor
