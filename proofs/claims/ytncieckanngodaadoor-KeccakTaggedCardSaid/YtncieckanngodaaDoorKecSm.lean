/-
  The digest byte by byte is the digest block by block of the padded message. Plain mathematics.
-/
import Derived.Test.YtncieckanngodaaDoorKecPd
namespace Go.Proofs.YtncieckanngodaaDoor
open Go.RowKit

/-- The state behind n blocks. -/
def absB (st ys : List Nat) : Nat → List Nat
  | 0 => st
  | n + 1 => absS (absB st ys n) ((ys.drop (136 * n)).take 136)

theorem absB_congr (st xs ys : List Nat) : ∀ n, xs.take (136 * n) = ys.take (136 * n) → absB st xs n = absB st ys n
  | 0, _ => rfl
  | n + 1, h => by
    have e : 136 * (n + 1) = 136 * n + 136 := by omega
    rw [e] at h
    have h1 : xs.take (136 * n) = ys.take (136 * n) := by
      have := congrArg (List.take (136 * n)) h
      rwa [List.take_take, List.take_take, Nat.min_eq_left (by omega)] at this
    have h2 : (xs.drop (136 * n)).take 136 = (ys.drop (136 * n)).take 136 := by
      have := congrArg (List.drop (136 * n)) h
      rwa [List.drop_take, List.drop_take, Nat.add_sub_cancel_left] at this
    rw [absB, absB, absB_congr st xs ys n h1, h2]

theorem hsh_blocks (xs : List Nat) : ∀ n, 136 * n ≤ xs.length → hsh (xs.take (136 * n)) = (absB (List.replicate 25 0) xs n, [])
  | 0, _ => by rw [Nat.mul_zero, List.take_zero]; rfl
  | n + 1, h => by
    have e : 136 * (n + 1) = 136 * n + 136 := by omega
    have hl : ((xs.drop (136 * n)).take 136).length = 136 := by simp; omega
    rw [e, List.take_add, hsh_append, hsh_blocks xs n (by omega), feed_full _ _ [] (by rw [hl]; rfl) (by decide), absB, List.nil_append]

theorem padB_rest (rest : List Nat) (hr : rest.length < 136) : rest ++ [6] ++ List.replicate (135 - rest.length) 0 = (rest ++ List.replicate (136 - rest.length) 0).set rest.length 6 := by
  rw [List.set_append_right _ _ (Nat.le_refl _), Nat.sub_self, List.append_assoc]
  congr 1
  rw [show 136 - rest.length = (135 - rest.length) + 1 by omega, List.replicate_succ, List.set_cons_zero]; rfl

theorem padL_split (xs : List Nat) : padL xs = xs.take (136 * (xs.length / 136)) ++ padB (xs.drop (136 * (xs.length / 136))) ∧ (padL xs).length = 136 * (xs.length / 136 + 1) := by
  have hq : 136 * (xs.length / 136) ≤ xs.length := by omega
  have hrl : (xs.drop (136 * (xs.length / 136))).length = xs.length % 136 := by simp; omega
  have hz : zpad xs.length = 135 - (xs.drop (136 * (xs.length / 136))).length := by rw [hrl]; unfold zpad; omega
  have h0 : pad0 xs = xs.take (136 * (xs.length / 136)) ++ ((xs.drop (136 * (xs.length / 136)) ++ List.replicate (136 - (xs.drop (136 * (xs.length / 136))).length) 0).set (xs.drop (136 * (xs.length / 136))).length 6) := by
    rw [← padB_rest _ (by rw [hrl]; omega), pad0, hz, ← List.append_assoc, ← List.append_assoc, List.take_append_drop]
  have hl : (pad0 xs).length = 136 * (xs.length / 136) + 136 := by rw [pad0_length]; unfold zpad; omega
  have hA : (xs.take (136 * (xs.length / 136))).length = 136 * (xs.length / 136) := by simp; omega
  refine ⟨?_, by rw [padL, List.length_set, hl]; omega⟩
  rw [padL, padB, hl]
  generalize xs.take (136 * (xs.length / 136)) = hd at *
  generalize (xs.drop (136 * (xs.length / 136)) ++ List.replicate (136 - (xs.drop (136 * (xs.length / 136))).length) 0).set (xs.drop (136 * (xs.length / 136))).length 6 = bs at *
  rw [h0, List.set_append_right _ _ (by rw [hA]; omega), hA, show 136 * (xs.length / 136) + 136 - 1 - 136 * (xs.length / 136) = 135 by omega]
  congr 2
  have : (hd ++ bs).getD (136 * (xs.length / 136) + 136 - 1) 0 = bs.getD 135 0 := by
    simp only [List.getD_eq_getElem?_getD]
    rw [List.getElem?_append_right (by rw [hA]; omega), hA]
    congr 2; omega
  rw [this]

theorem digS_blocks (xs : List Nat) : digS xs = dig (absB (List.replicate 25 0) (padL xs) ((padL xs).length / 136)) := by
  obtain ⟨h1, h2⟩ := padL_split xs
  have hq : 136 * (xs.length / 136) ≤ xs.length := by omega
  have hrl : (xs.drop (136 * (xs.length / 136))).length = xs.length % 136 := by simp; omega
  have hh : hsh xs = (absB (List.replicate 25 0) xs (xs.length / 136), xs.drop (136 * (xs.length / 136))) := by
    have := hsh_append (xs.take (136 * (xs.length / 136))) (xs.drop (136 * (xs.length / 136)))
    rw [List.take_append_drop, hsh_blocks xs _ hq, feed_few _ _ _ (by rw [hrl]; simp; omega)] at this
    simpa using this
  have hA : (xs.take (136 * (xs.length / 136))).length = 136 * (xs.length / 136) := by simp; omega
  have hpb : (padB (xs.drop (136 * (xs.length / 136)))).length = 136 := padB_length _ (by rw [hrl]; omega)
  rw [digS, hh, h2, Nat.mul_div_cancel_left _ (by omega), absB]
  congr 2
  · refine (absB_congr _ _ _ _ ?_).symm
    rw [h1, List.take_append_of_le_length (by omega), List.take_of_length_le (by omega)]
  · have hd : (xs.take (136 * (xs.length / 136)) ++ padB (xs.drop (136 * (xs.length / 136)))).drop (136 * (xs.length / 136)) = padB (xs.drop (136 * (xs.length / 136))) := List.drop_left' hA
    rw [h1, hd, List.take_of_length_le (by omega)]
end Go.Proofs.YtncieckanngodaaDoor
