/-
  Plain words on the members of a set that is a number, and on the lowest bit of a word. No program is named here.
-/
import Derived.Test.YtccanbjnbmihgaaDoorSetM
import Derived.Lib.TrailingZeros
namespace Go.Proofs.YtccanbjnbmihgaaDoor

/-- The members below n, ascending. -/
def memM (M n : Nat) : List Int := ((List.range n).filter M.testBit).map fun i : Nat => (i : Int)
theorem memM_yes {M n : Nat} (h : M.testBit n = true) : memM M (n + 1) = memM M n ++ [(n : Int)] := by
  simp [memM, List.range_succ, h]
theorem memM_no {M n : Nat} (h : M.testBit n = false) : memM M (n + 1) = memM M n := by
  simp [memM, List.range_succ, h]
theorem memM_skip {M a : Nat} : ∀ d, (∀ i, a ≤ i → i < a + d → M.testBit i = false) → memM M (a + d) = memM M a
  | 0, _ => rfl
  | d + 1, h => by
    rw [← Nat.add_assoc, memM_no (h (a + d) (by omega) (by omega)), memM_skip d fun i h1 h2 => h i h1 (by omega)]
theorem memM_pre (M a : Nat) : ∀ d, memM M a <+: memM M (a + d)
  | 0 => List.prefix_refl _
  | d + 1 => by
    have ih := memM_pre M a d
    rw [← Nat.add_assoc]
    cases h : M.testBit (a + d) with
    | true => rw [memM_yes h]; exact ih.trans (List.prefix_append _ _)
    | false => rw [memM_no h]; exact ih
theorem memM_prefix (M : Nat) {a b : Nat} (h : a ≤ b) : memM M a <+: memM M b := by
  obtain ⟨d, rfl⟩ : ∃ d, b = a + d := ⟨b - a, by omega⟩
  exact memM_pre M a d
theorem memM_len (M : Nat) {a b : Nat} (h : a ≤ b) : (memM M a).length ≤ (memM M b).length := (memM_prefix M h).length_le
theorem memM_le (M n : Nat) : (memM M n).length ≤ n := by
  unfold memM
  rw [List.length_map]
  exact Nat.le_trans (List.length_filter_le _ _) (by simp)

/-- A word without its lowest t bits. -/
def cutW (y t : Nat) : Nat := y / 2 ^ t * 2 ^ t
theorem cutW_zero (y : Nat) : cutW y 0 = y := by simp [cutW]
theorem cutW_bit (y t i : Nat) : (cutW y t).testBit i = (decide (t ≤ i) && y.testBit i) := by
  unfold cutW
  rw [Nat.testBit_mul_two_pow, Nat.testBit_div_two_pow]
  by_cases h : t ≤ i
  · simp [h, show i - t + t = i by omega]
  · simp [h]
theorem cutW_le (y t : Nat) : cutW y t ≤ y := Nat.div_mul_le_self _ _

/-- The lowest bit of what is left of a word, and what is left without it. -/
theorem cutW_low {y t : Nat} (hy : y < 2 ^ 64) (h0 : cutW y t ≠ 0) :
    t ≤ Lib.ctz 64 (cutW y t) ∧ Lib.ctz 64 (cutW y t) < 64 ∧ y.testBit (Lib.ctz 64 (cutW y t)) = true ∧ (∀ i, t ≤ i → i < Lib.ctz 64 (cutW y t) → y.testBit i = false) ∧
    cutW y t &&& (cutW y t - 1) = cutW y (Lib.ctz 64 (cutW y t) + 1) := by
  have hb := cutW_bit y t
  have hlt : cutW y t < 2 ^ 64 := Nat.lt_of_le_of_lt (cutW_le y t) hy
  have he : Lib.ctz 64 (cutW y t) = Lib.ctzFrom 64 (cutW y t) := by simp [Lib.ctz, h0]
  obtain ⟨m, hm, hj⟩ := Lib.ctzFrom_spec 64 (cutW y t) (by omega) hlt
  rw [← he] at hm hj
  generalize Lib.ctz 64 (cutW y t) = j at hm hj ⊢
  have hc := cutW_bit y (j + 1)
  generalize cutW y t = W at hm hb hlt h0 ⊢
  clear he h0
  have hW : W = 2 ^ (j + 1) * m + 2 ^ j := by rw [hm, Nat.pow_succ, Nat.mul_add, Nat.mul_one, Nat.mul_assoc]
  have hp : 0 < 2 ^ j := Nat.pow_pos (by omega)
  have hpj : 2 ^ j < 2 ^ (j + 1) := Nat.pow_lt_pow_right (by omega) (by omega)
  have hW1 : W - 1 = 2 ^ (j + 1) * m + (2 ^ j - 1) := by omega
  have b1 : ∀ i, W.testBit i = if i < j + 1 then decide (j = i) else m.testBit (i - (j + 1)) := fun i => by
    rw [hW, Nat.testBit_two_pow_mul_add _ hpj, Nat.testBit_two_pow]
  have b2 : ∀ i, (W - 1).testBit i = if i < j + 1 then decide (i < j) else m.testBit (i - (j + 1)) := fun i => by
    rw [hW1, Nat.testBit_two_pow_mul_add _ (by omega), Nat.testBit_two_pow_sub_one]
  have hj1 : (decide (t ≤ j) && y.testBit j) = true := by rw [← hb, b1]; simp
  have htj : t ≤ j := by
    by_cases h : t ≤ j
    · exact h
    · simp [h] at hj1
  refine ⟨htj, hj, by simpa [htj] using hj1, fun i h1 h2 => ?_, ?_⟩
  · have := hb i
    rw [b1, if_pos (by omega)] at this
    simp [h1, show ¬ j = i by omega] at this
    exact this
  · refine Nat.eq_of_testBit_eq fun i => ?_
    rw [Nat.testBit_and, b1, b2, hc]
    by_cases h : i < j + 1
    · rw [if_pos h, if_pos h]
      by_cases e : j = i
      · subst e; simp; intro h9; omega
      · simp [e, show ¬ j + 1 ≤ i by omega]
    · rw [if_neg h, if_neg h]
      have h1 := hb i
      rw [b1, if_neg h] at h1
      simp [h1, show t ≤ i by omega, show j + 1 ≤ i by omega]

/-- The bits of a word of a set are the set's. -/
theorem word_testBit (M k i : Nat) : (M / 2 ^ (64 * k) % 2 ^ 64).testBit i = (decide (i < 64) && M.testBit (64 * k + i)) := by
  rw [Nat.testBit_mod_two_pow, Nat.testBit_div_two_pow, Nat.add_comm]

/-- One member more comes. -/
theorem memM_next {M k t : Nat} (h0 : cutW (M / 2 ^ (64 * k) % 2 ^ 64) t ≠ 0) :
    t ≤ Lib.ctz 64 (cutW (M / 2 ^ (64 * k) % 2 ^ 64) t) ∧ Lib.ctz 64 (cutW (M / 2 ^ (64 * k) % 2 ^ 64) t) < 64 ∧
    memM M (64 * k + Lib.ctz 64 (cutW (M / 2 ^ (64 * k) % 2 ^ 64) t) + 1) = memM M (64 * k + t) ++ [((64 * k + Lib.ctz 64 (cutW (M / 2 ^ (64 * k) % 2 ^ 64) t) : Nat) : Int)] ∧
    cutW (M / 2 ^ (64 * k) % 2 ^ 64) t &&& (cutW (M / 2 ^ (64 * k) % 2 ^ 64) t - 1) = cutW (M / 2 ^ (64 * k) % 2 ^ 64) (Lib.ctz 64 (cutW (M / 2 ^ (64 * k) % 2 ^ 64) t) + 1) := by
  have hy : M / 2 ^ (64 * k) % 2 ^ 64 < 2 ^ 64 := Nat.mod_lt _ (Nat.pow_pos (by omega))
  obtain ⟨h1, h2, h3, h4, h5⟩ := cutW_low hy h0
  have hb := word_testBit M k
  generalize Lib.ctz 64 (cutW (M / 2 ^ (64 * k) % 2 ^ 64) t) = j at h1 h2 h3 h4 h5 ⊢
  refine ⟨h1, h2, ?_, h5⟩
  rw [hb] at h3
  simp [h2] at h3
  rw [memM_yes h3]
  congr 1
  obtain ⟨d, rfl⟩ : ∃ d, j = t + d := ⟨j - t, by omega⟩
  rw [← Nat.add_assoc]
  refine memM_skip d fun i g1 g2 => ?_
  obtain ⟨e, rfl⟩ : ∃ e, i = 64 * k + e := ⟨i - 64 * k, by omega⟩
  have := h4 e (by omega) (by omega)
  rw [hb] at this
  simpa [show e < 64 by omega] using this
/-- No member of the word is left. -/
theorem memM_rest {M k t : Nat} (ht : t ≤ 64) (h0 : cutW (M / 2 ^ (64 * k) % 2 ^ 64) t = 0) : memM M (64 * (k + 1)) = memM M (64 * k + t) := by
  have hb := word_testBit M k
  have hc := cutW_bit (M / 2 ^ (64 * k) % 2 ^ 64) t
  rw [h0] at hc
  have := memM_skip (M := M) (a := 64 * k + t) (64 - t) fun i g1 g2 => by
    obtain ⟨e, rfl⟩ : ∃ e, i = 64 * k + e := ⟨i - 64 * k, by omega⟩
    have h1 := hc e
    rw [hb] at h1
    simp [show t ≤ e by omega, show e < 64 by omega] at h1
    exact h1
  rw [show 64 * k + t + (64 - t) = 64 * (k + 1) by omega] at this
  exact this
theorem cutW_dec {y t : Nat} (h0 : cutW y t ≠ 0) (j : Nat) (h : cutW y t &&& (cutW y t - 1) = cutW y j) : cutW y j < cutW y t := by
  rw [← h]
  have : cutW y t &&& (cutW y t - 1) ≤ cutW y t - 1 := Nat.and_le_right
  omega
end Go.Proofs.YtccanbjnbmihgaaDoor
