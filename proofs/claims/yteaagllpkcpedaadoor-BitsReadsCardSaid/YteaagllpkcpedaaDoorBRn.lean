/-
  Plain words on the texts and the bytes of ascending lists. No program is named here.
-/
import Derived.Test.YteaagllpkcpedaaDoorBRm
import Derived.Test.YteaagllpkcpedaaDoorBTxM
import Derived.Test.YteaagllpkcpedaaDoorReadM
import Derived.Test.YteaagllpkcpedaaDoorSetML
namespace Go.Proofs.YteaagllpkcpedaaDoor

theorem itoa_len (x : Int) (h : 0 ≤ x) : 1 ≤ (Lib.itoa x).length := by
  obtain ⟨n, rfl⟩ := Int.eq_ofNat_of_zero_le h
  rw [Lib.itoa_nonneg]
  exact decDigits_len n
theorem txt_take (xs : List Int) (k : Nat) (hk : k < xs.length) (h : ∀ x ∈ xs, 0 ≤ x) : txt (xs.take (k + 1)) = (if k = 0 then txt (xs.take k) else txt (xs.take k) ++ [32]) ++ Lib.itoa (xs.getD k 0) := by
  rw [List.take_succ_eq_append_getElem hk, txt_snoc]
  have e : xs.getD k 0 = xs[k] := by simp [List.getD, hk]
  rw [e]
  congr 1
  by_cases h0 : k = 0
  · subst h0
    simp [txt]
  · rw [if_neg h0, if_pos]
    obtain ⟨j, rfl⟩ : ∃ j, k = j + 1 := ⟨k - 1, by omega⟩
    rw [List.take_succ_eq_append_getElem (by omega : j < xs.length), txt_snoc]
    have h1 := txt_len (xs.take j)
    have h2 := itoa_len xs[j] (h _ (List.getElem_mem _))
    split <;> simp <;> omega

/-- The bytes of a set, in as many bytes as its greatest member asks for. -/
structure TopB (M n : Nat) : Prop where
  lt : M < 2 ^ (8 * n)
  top : n = 0 ∨ 2 ^ (8 * (n - 1)) ≤ M
theorem TopB.zero : TopB 0 0 := ⟨by simp, Or.inl rfl⟩
theorem TopB.bytes {M n : Nat} (h : TopB M n) : bl8 M n = bytesOf M := by
  by_cases h0 : n = 0
  · subst h0
    have : M = 0 := by have := h.lt; simp at this; omega
    subst this
    rfl
  · have h1 := h.top.resolve_left h0
    have hne : M ≠ 0 := by
      have : 0 < 2 ^ (8 * (n - 1)) := Nat.pow_pos (by omega)
      omega
    have l1 := (Nat.log2_lt hne).2 h.lt
    have l2 := (Nat.le_log2 hne).2 h1
    rw [bytesOf, if_neg hne, show Nat.log2 M / 8 + 1 = n by omega]
theorem bl8_more {M n : Nat} (h : M < 2 ^ (8 * n)) : bl8 M (n + 1) = bl8 M n ++ [0] := by
  unfold bl8
  rw [List.range_succ, List.map_append]
  simp [Nat.div_eq_of_lt h]
theorem TopB.add {M n x m : Nat} (h : TopB M n) (hm : m = max n (x / 8 + 1)) : TopB (M ||| 2 ^ x) m := by
  have h8 : 8 * (x / 8) ≤ x := by omega
  refine ⟨Nat.or_lt_two_pow (Nat.lt_of_lt_of_le h.lt (Nat.pow_le_pow_right (by omega) (by omega))) (Nat.pow_lt_pow_right (by omega) (by omega)), Or.inr ?_⟩
  by_cases hc : n ≤ x / 8
  · refine Nat.le_trans (Nat.pow_le_pow_right (by omega) (by omega : 8 * (m - 1) ≤ x)) Nat.right_le_or
  · have h0 : n ≠ 0 := by omega
    have := h.top.resolve_left h0
    rw [show m = n by omega]
    exact Nat.le_trans this Nat.left_le_or
/-- A bit that is not there is added by a sum. -/
theorem add_bit (b j : Nat) (h : b.testBit j = false) : b + 2 ^ j = b ||| 2 ^ j := by
  have h1 : b = 2 ^ (j + 1) * (b / 2 ^ (j + 1)) + b % 2 ^ (j + 1) := (Nat.div_add_mod _ _).symm
  have h2 : b % 2 ^ (j + 1) < 2 ^ j := by
    refine Nat.lt_of_lt_of_le (m := 2 ^ j) ?_ (Nat.le_refl _)
    refine Nat.lt_pow_two_of_testBit _ fun i hi => ?_
    rw [Nat.testBit_mod_two_pow]
    by_cases e : i = j
    · subst e; simp [h]
    · simp; omega
  have hp : 2 ^ (j + 1) = 2 ^ j * 2 := Nat.pow_succ 2 j
  have e1 : b + 2 ^ j = 2 ^ (j + 1) * (b / 2 ^ (j + 1)) + (b % 2 ^ (j + 1) + 2 ^ j) := by omega
  refine Nat.eq_of_testBit_eq fun i => ?_
  rw [e1, Nat.testBit_two_pow_mul_add _ (by omega), Nat.testBit_or, Nat.testBit_two_pow]
  by_cases hi : i < j + 1
  · rw [if_pos hi]
    by_cases e : j = i
    · subst e
      rw [Nat.add_comm, Nat.testBit_two_pow_add_eq]
      rw [Nat.testBit_lt_two_pow h2]
      simp
    · have hij : i < j := by omega
      rw [Nat.add_comm, Nat.testBit_two_pow_add_gt hij, Nat.testBit_mod_two_pow]
      simp [hi, e]
  · rw [if_neg hi, Nat.testBit_div_two_pow]
    simp [show ¬ j = i by omega, show i - (j + 1) + (j + 1) = i by omega]

/-- Bytes as a number, bit by bit. -/
theorem numLE_testBit (p : List Nat) (hb : ∀ b ∈ p, b < 256) (i k : Nat) (hi : i < p.length) (hk : k < 8) : (numLE p).testBit (8 * i + k) = decide (p.getD i 0 / 2 ^ k % 2 = 1) := by
  have h := numLE_byte p i hi hb
  rw [← h, Nat.testBit_eq_decide_div_mod_eq]
  congr 2
  rw [show (256 : Nat) = 2 ^ k * 2 ^ (8 - k) by rw [← Nat.pow_add, show k + (8 - k) = 8 by omega], Nat.pow_add, ← Nat.div_div_eq_div_mul]
  generalize numLE p / 2 ^ (8 * i) = N
  rw [Nat.mod_mul_right_div_self]
  have : 2 ∣ 2 ^ (8 - k) := ⟨2 ^ (8 - k - 1), by rw [← Nat.pow_succ']; congr 1; omega⟩
  rw [Nat.mod_mod_of_dvd _ this]
theorem memM_numLE (p : List Nat) (hb : ∀ b ∈ p, b < 256) (hl : p.length ≤ 512) : memM (numLE p) (8 * p.length) = memM (numLE p) 4096 := by
  have hlt := numLE_lt p hb
  have := memM_skip (M := numLE p) (a := 8 * p.length) (4096 - 8 * p.length) fun i h1 _ => Nat.testBit_lt_two_pow (Nat.lt_of_lt_of_le hlt (Nat.pow_le_pow_right (by omega) h1))
  rw [show 8 * p.length + (4096 - 8 * p.length) = 4096 by omega] at this
  exact this.symm
end Go.Proofs.YteaagllpkcpedaaDoor
