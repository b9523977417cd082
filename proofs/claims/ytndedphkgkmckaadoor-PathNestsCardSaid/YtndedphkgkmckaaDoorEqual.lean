/-
  bits.Set.Equal: two sets are equal exactly if their numbers are.
-/
import Derived.Test.YtndedphkgkmckaaDoorOf
import Derived.BigQuiet
namespace Go.Proofs.YtndedphkgkmckaaDoor
open Go.RowKit

theorem wl_inj {A B n : Nat} (hA : A < 2 ^ (64 * n)) (hB : B < 2 ^ (64 * n)) (h : wl A n = wl B n) : A = B := by
  refine Nat.eq_of_testBit_eq fun j => ?_
  by_cases hj : j < 64 * n
  · have h1 := congrArg (fun l => (l.getD (j / 64) 0).testBit (j % 64)) h
    simp only [wl_getD _ _ _ (show j / 64 < n by omega), Nat.testBit_mod_two_pow, Nat.testBit_div_two_pow] at h1
    have h2 : j % 64 < 64 := by omega
    have h3 : j % 64 + 64 * (j / 64) = j := by omega
    simpa [h2, h3] using h1
  · rw [Nat.testBit_lt_two_pow (Nat.lt_of_lt_of_le hA (Nat.pow_le_pow_right (by omega) (by omega))), Nat.testBit_lt_two_pow (Nat.lt_of_lt_of_le hB (Nat.pow_le_pow_right (by omega) (by omega)))]

theorem Canon.inj {hs : List Nat} {A B : Nat} (h : Canon hs A) (k : Canon hs B) : A = B :=
  wl_inj h.lt k.lt (h.eq.symm.trans k.eq)

theorem Canon.le {a b : List Nat} {M : Nat} (h : Canon a M) (k : Canon b M) : b.length ≤ a.length := by
  rcases k.last with e | e
  · omega
  · by_cases hl : b.length ≤ a.length
    · exact hl
    · exfalso
      refine e (Nat.div_eq_of_lt (Nat.lt_of_lt_of_le h.lt (Nat.pow_le_pow_right (by omega) (by omega))))

theorem Canon.uniq {a b : List Nat} {M : Nat} (h : Canon a M) (k : Canon b M) : a = b := by
  have hl : a.length = b.length := Nat.le_antisymm (k.le h) (h.le k)
  rw [h.eq, k.eq, hl]

/-- A row of words, cell by cell. -/
theorem words_form {w : World} {v : Value} {xs : List Nat} (h : Words w v xs) : ∃ a c, v = .slice a xs.length c ∧ xs.length ≤ maxLen ∧ ∀ i, i < xs.length → ∃ g off, a = some ⟨g, off, none⟩ ∧ g < w.heap.size ∧ w.cell? ⟨g, off + i, none⟩ = some (.int .u64 (xs.getD i 0 : Nat)) := by
  rcases h with ⟨h, h2⟩ | ⟨g, off, cap, h, h1, h3, h4, h5⟩
  · exact ⟨none, 0, by rw [h, h2]; rfl, by rw [h2]; simp, fun i hi => by rw [h2] at hi; simp at hi⟩
  · exact ⟨_, _, h, by omega, fun i hi => ⟨g, off, rfl, h4, h5 i hi⟩⟩

theorem take_eq_succ {xs ys : List Nat} {k : Nat} (h : xs.take k = ys.take k) (hx : k < xs.length) (hy : k < ys.length) (he : xs.getD k 0 = ys.getD k 0) : xs.take (k + 1) = ys.take (k + 1) := by
  rw [List.take_succ_eq_append_getElem hx, List.take_succ_eq_append_getElem hy, h]
  simp only [List.getD_eq_getElem?_getD, List.getElem?_eq_getElem hx, List.getElem?_eq_getElem hy, Option.getD_some] at he
  rw [he]

end Go.Proofs.YtndedphkgkmckaaDoor
