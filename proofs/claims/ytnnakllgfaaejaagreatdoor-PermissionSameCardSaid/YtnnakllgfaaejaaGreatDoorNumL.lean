/-
  Plain words: how many groups of seven bits a number has ahead of the last one.
-/
import Derived.Lib.BitFns
import Derived.Lib.ItoaNum
import Derived.RowKit
import Derived.IntWalk
import Derived.Test.YtnnakllgfaaejaaGreatDoorNum
namespace Go.Proofs.YtnnakllgfaaejaaGreatDoor
open Go.RowKit

theorem last_spec (n : Nat) (hn : n < 18446744073709551616) :
    ∃ L : Nat, wrap64 ((wrap64 (max (Lib.bitLen n : Int) 1 - 1)).tdiv 7) = (L : Int) ∧ L ≤ 9 ∧ n < 128 ^ (L + 1) ∧ (L ≠ 0 → 128 ^ L ≤ n) := by
  have h64 : Lib.bitLen n ≤ 64 := Lib.bitLen_le n 64 (by omega) (by simpa using hn)
  refine ⟨(max (Lib.bitLen n) 1 - 1) / 7, ?_, ?_, ?_, ?_⟩
  · rw [IntWalk.wrap64_in (max (Lib.bitLen n : Int) 1 - 1) (by omega), Int.tdiv_eq_ediv_of_nonneg (by omega), IntWalk.wrap64_in _ (by omega)]
    omega
  · omega
  · by_cases h0 : n = 0
    · subst h0; exact Nat.pow_pos (by omega)
    · have ⟨h1, h2, h3⟩ := Lib.bitLenAux_bounds 64 n (by simpa using hn) h0
      have e : (128 : Nat) = 2 ^ 7 := by decide
      rw [e, ← Nat.pow_mul]
      exact Nat.lt_of_lt_of_le h3 (Nat.pow_le_pow_right (by omega) (by change Lib.bitLen n ≤ _; omega))
  · intro hL
    have h0 : n ≠ 0 := by
      rintro rfl
      have : Lib.bitLen 0 = 0 := Lib.bitLenAux_zero 64
      rw [this] at hL; simp at hL
    have ⟨h1, h2, h3⟩ := Lib.bitLenAux_bounds 64 n (by simpa using hn) h0
    have e : (128 : Nat) = 2 ^ 7 := by decide
    rw [e, ← Nat.pow_mul]
    exact Nat.le_trans (Nat.pow_le_pow_right (by omega) (by change 7 * ((max (Lib.bitLen n) 1 - 1) / 7) ≤ Lib.bitLen n - 1; omega)) h2

/-- One group more. -/
theorem encHi_step (n L k : Nat) (hk : k < L) (hlo : 128 ^ L ≤ n) : encHi (n / 128 ^ (L - k)) = encHi (n / 128 ^ (L + 1 - k)) ++ [n / 128 ^ (L - k) % 128 + 128] := by
  have hpos : (0 : Nat) < 128 ^ (L - k) := Nat.pow_pos (by omega)
  have h1 : n / 128 ^ (L - k) ≠ 0 := by
    have : 128 ^ (L - k) ≤ n := Nat.le_trans (Nat.pow_le_pow_right (by omega) (by omega)) hlo
    have := Nat.div_pos this hpos
    omega
  rw [encHi_pos h1, show L + 1 - k = (L - k) + 1 by omega, Nat.pow_succ, Nat.div_div_eq_div_mul]

end Go.Proofs.YtnnakllgfaaejaaGreatDoor
