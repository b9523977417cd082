/-
  BackM without the reference's set (for seats that have no arbacref02): sets written and read back, plain words. Never beside BackM or RefSet.
-/
import Derived.Test.YtncieckanngodaaDoorRSet
namespace Go.Proofs.YtncieckanngodaaDoor
open Go.RowKit

theorem bytesOf_length {M : Nat} (h : Small M) : (bytesOf M).length ≤ 512 := by
  unfold bytesOf
  split
  · simp
  · rename_i h0
    have := log2_small h h0
    rw [bl8_length]; omega

theorem pieceS_enc (ys rest : List Nat) (most : Int) (hm : (ys.length : Int) ≤ most) (hl : ys.length < 18446744073709551616) : pieceS ((enc ys.length ++ ys) ++ rest) most 0 = (ys, rest, 0) := by
  have h1 := numberS_enc (ys ++ rest) hl
  rw [List.append_assoc]
  have h2 := enc_pos ys.length
  rw [pieceS, if_neg (by simp), if_neg (by omega), h1]
  simp only
  rw [if_neg (by omega), if_neg (by omega), if_neg (by simp), List.drop_left, List.take_left, ← List.drop_drop, List.drop_left, List.drop_left]

theorem bl8_succ (M n : Nat) : bl8 M (n + 1) = bl8 M n ++ [M / 2 ^ (8 * n) % 256] := by simp [bl8, List.range_succ]

theorem numLE_bl8 (M : Nat) : ∀ n, numLE (bl8 M n) = M % 2 ^ (8 * n)
  | 0 => by simp [bl8, numLE, Nat.mod_one]
  | n + 1 => by
    rw [bl8_succ, numLE_append, numLE_bl8 M n, bl8_length]
    simp only [numLE, Nat.mul_zero, Nat.add_zero]
    rw [show 8 * (n + 1) = 8 * n + 8 by omega, Nat.pow_add, Nat.mod_mul]

theorem lt_bytes {M : Nat} (h0 : M ≠ 0) : M < 2 ^ (8 * (Nat.log2 M / 8 + 1)) :=
  (Nat.log2_lt h0).1 (by omega)

theorem numLE_bytesOf (M : Nat) : numLE (bytesOf M) = M := by
  unfold bytesOf
  split
  · rename_i h; rw [h]; rfl
  · rename_i h0
    rw [numLE_bl8, Nat.mod_eq_of_lt (lt_bytes h0)]

theorem bytesOf_good {M : Nat} (h : Small M) : ¬ BadSet (bytesOf M) := by
  have hl := bytesOf_length h
  rintro (e | ⟨e1, e2⟩)
  · omega
  · by_cases h0 : M = 0
    · rw [h0] at e1; exact absurd e1 (by simp [bytesOf])
    · rw [bytesOf, if_neg h0, bl8_length, bl8_getD _ _ _ (by omega)] at e2
      have hlt := lt_bytes h0
      have hle : 2 ^ (8 * (Nat.log2 M / 8)) ≤ M := (Nat.le_log2 h0).1 (by omega)
      rw [show 8 * (Nat.log2 M / 8 + 1) = 8 * (Nat.log2 M / 8) + 8 by omega, Nat.pow_add] at hlt
      rw [show Nat.log2 M / 8 + 1 - 1 = Nat.log2 M / 8 by omega] at e2
      have hp : 0 < 2 ^ (8 * (Nat.log2 M / 8)) := Nat.pow_pos (by omega)
      have h1 : M / 2 ^ (8 * (Nat.log2 M / 8)) < 256 := Nat.div_lt_of_lt_mul hlt
      have h2 : 0 < M / 2 ^ (8 * (Nat.log2 M / 8)) := Nat.div_pos hle hp
      rw [Nat.mod_eq_of_lt h1] at e2
      omega

theorem setS_enc {M : Nat} (rest : List Nat) (most : Int) (h : Small M) :
    setS ((enc (bytesOf M).length ++ bytesOf M) ++ rest) most 0 = if M ≠ 0 ∧ most < (Nat.log2 M : Int) then (0, (enc (bytesOf M).length ++ bytesOf M) ++ rest, 2) else (M, rest, 0) := by
  have hl := bytesOf_length h
  have hp := pieceS_enc (bytesOf M) rest 512 (by omega) (by omega)
  rw [setS, if_neg (by simp), hp]
  simp only
  rw [if_neg (by simp), if_neg (bytesOf_good h), numLE_bytesOf]

end Go.Proofs.YtncieckanngodaaDoor
