/-
  Plain words on sets as numbers: the greatest member of a list and the bytes of its set. No program is named here.
-/
import Derived.Test.YteaagllpkcpedaaDoorSetM
namespace Go.Proofs.YteaagllpkcpedaaDoor

theorem byte_or (M i k : Nat) : (M ||| 2 ^ i) / 2 ^ (8 * k) % 256 = if k = i / 8 then (M / 2 ^ (8 * k) % 256) ||| 2 ^ (i % 8) else M / 2 ^ (8 * k) % 256 := by
  rw [show (256 : Nat) = 2 ^ 8 from rfl]
  refine Nat.eq_of_testBit_eq fun j => ?_
  rw [Nat.testBit_mod_two_pow, Nat.testBit_div_two_pow, Nat.testBit_or, Nat.testBit_two_pow]
  split
  · rename_i hk
    rw [Nat.testBit_or, Nat.testBit_mod_two_pow, Nat.testBit_div_two_pow, Nat.testBit_two_pow]
    by_cases hj : j < 8
    · have : (i = j + 8 * k) ↔ (i % 8 = j) := by omega
      simp [hj, this]
    · have : ¬ (i % 8 = j) := by omega
      simp [hj, this]
  · rename_i hk
    rw [Nat.testBit_mod_two_pow, Nat.testBit_div_two_pow]
    by_cases hj : j < 8
    · have : ¬ (i = j + 8 * k) := by omega
      simp [this]
    · simp [hj]

theorem bl8_or (M n i : Nat) (_h : i / 8 < n) : (bl8 M n).set (i / 8) ((bl8 M n).getD (i / 8) 0 ||| 2 ^ (i % 8)) = bl8 (M ||| 2 ^ i) n := by
  refine List.ext_getElem (by simp [bl8]) fun k h1 h2 => ?_
  have hk : k < n := by simpa [bl8] using h2
  rw [List.getElem_set]
  have e : (bl8 (M ||| 2 ^ i) n)[k] = (M ||| 2 ^ i) / 2 ^ (8 * k) % 256 := by simp [bl8]
  rw [e, byte_or]
  by_cases hq : i / 8 = k
  · rw [if_pos hq, if_pos hq.symm, bl8_getD _ _ _ (by omega), hq]
  · rw [if_neg hq, if_neg (fun h => hq h.symm)]
    simp [bl8]

theorem bl8_zero (n : Nat) : bl8 0 n = List.replicate n 0 := by
  refine List.ext_getElem (by simp [bl8]) fun i h1 h2 => ?_
  simp [bl8]

theorem mask_below (e : Nat) (l : List Int) : ∀ M : Nat, M < 2 ^ e → (∀ i ∈ l, 0 ≤ i → i ≤ 4095 → i.toNat < e) → l.foldl addM M < 2 ^ e := by
  induction l with
  | nil => intro M h _; simpa using h
  | cons x t ih =>
    intro M h hl
    rw [List.foldl_cons]
    refine ih _ ?_ fun i hi => hl i (List.mem_cons_of_mem _ hi)
    unfold addM
    split
    · rename_i hx
      have := hl x List.mem_cons_self hx.1 hx.2
      exact Nat.or_lt_two_pow h (Nat.pow_lt_pow_right (by omega) (by omega))
    · exact h

theorem fold_bit (l : List Int) : ∀ (M j : Nat), M.testBit j = true → (l.foldl addM M).testBit j = true := by
  induction l with
  | nil => intro M j h; simpa using h
  | cons x t ih =>
    intro M j h
    rw [List.foldl_cons]
    refine ih _ _ ?_
    unfold addM
    split
    · rw [Nat.testBit_or, h, Bool.true_or]
    · exact h

theorem mask_bit (l : List Int) : ∀ (M : Nat) (i : Int), i ∈ l → 0 ≤ i → i ≤ 4095 → (l.foldl addM M).testBit i.toNat = true := by
  induction l with
  | nil => intro M i h; simp at h
  | cons x t ih =>
    intro M i hi h0 h1
    rw [List.foldl_cons]
    rcases List.mem_cons.1 hi with rfl | hi
    · refine fold_bit t _ _ ?_
      rw [addM, if_pos ⟨h0, h1⟩, Nat.testBit_or, Nat.testBit_two_pow]
      simp
    · exact ih _ i hi h0 h1

theorem gOf_mem_fold (l : List Int) : ∀ m : Int, l.foldl (fun m i => if 0 ≤ i ∧ i ≤ 4095 then max m i else m) m = m ∨ (l.foldl (fun m i => if 0 ≤ i ∧ i ≤ 4095 then max m i else m) m) ∈ l := by
  induction l with
  | nil => intro m; exact Or.inl rfl
  | cons x t ih =>
    intro m
    rw [List.foldl_cons]
    rcases ih (if 0 ≤ x ∧ x ≤ 4095 then max m x else m) with h | h
    · rw [h]
      split
      · rcases Int.le_total m x with hx | hx
        · rw [Int.max_eq_right hx]; exact Or.inr List.mem_cons_self
        · rw [Int.max_eq_left hx]; exact Or.inl rfl
      · exact Or.inl rfl
    · exact Or.inr (List.mem_cons_of_mem _ h)

/-- The greatest member of the set of a list is the list's. -/
theorem gOf_log2 (l : List Int) (h : 0 ≤ gOf l) : maskOf l ≠ 0 ∧ Nat.log2 (maskOf l) = (gOf l).toNat := by
  have hb := gOf_bounds l
  have hm : gOf l ∈ l := by
    rcases gOf_mem_fold l (-1) with e | e
    · exfalso
      have : gOf l = -1 := e
      omega
    · exact e
  have hbit := mask_bit l 0 (gOf l) hm h hb.2
  have h0 : maskOf l ≠ 0 := by
    intro e
    have e2 : (maskOf l).testBit (gOf l).toNat = true := hbit
    rw [e] at e2
    simp at e2
  refine ⟨h0, ?_⟩
  refine (Nat.log2_eq_iff h0).2 ⟨Nat.ge_two_pow_of_testBit hbit, ?_⟩
  refine mask_below _ l 0 (Nat.pow_pos (by omega)) fun i hi i0 i1 => ?_
  have := gOf_ge l i hi i0 i1
  omega

theorem gOf_empty (l : List Int) (h : gOf l < 0) : maskOf l = 0 := by
  have hb := gOf_bounds l
  have : maskOf l < 2 ^ 0 := mask_below 0 l 0 (by simp) fun i hi i0 i1 => by
    have := gOf_ge l i hi i0 i1
    omega
  omega

end Go.Proofs.YteaagllpkcpedaaDoor
