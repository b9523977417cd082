/-
  Plain words on the least and the greatest member, on subsets and on common members. No program is named here.
-/
import Derived.Test.YteaagllpkcpedaaGreatDoorBRm
import Derived.Test.YteaagllpkcpedaaGreatDoorBOpM
namespace Go.Proofs.YteaagllpkcpedaaGreatDoor

/-- The least member. -/
structure LeastS (M d : Nat) : Prop where
  bit : M.testBit d = true
  low : ∀ i, i < d → M.testBit i = false
theorem LeastS.ne {M d : Nat} (h : LeastS M d) : M ≠ 0 := fun e => by have := h.bit; rw [e] at this; simp at this
theorem LeastS.lt {M d : Nat} (h : LeastS M d) (hS : Small M) : d < 4096 := by
  rcases Nat.lt_or_ge d 4096 with h1 | h1
  · exact h1
  · exact absurd h.bit (by rw [Nat.testBit_lt_two_pow (hS d (by omega))]; simp)
theorem memM_none {M n : Nat} (h : ∀ i, i < n → M.testBit i = false) : memM M n = [] := by
  have := memM_skip (M := M) (a := 0) n fun i _ h2 => h i (by omega)
  rw [Nat.zero_add] at this
  rw [this]; rfl
theorem memM_first {M d : Nat} (h : LeastS M d) (hS : Small M) : 0 < (memM M 4096).length ∧ (memM M 4096).getD 0 0 = (d : Int) := by
  have hd := h.lt hS
  have e : memM M (d + 1) = [(d : Int)] := by rw [memM_yes h.bit, memM_none h.low]; rfl
  obtain ⟨t, ht⟩ := memM_prefix M (show d + 1 ≤ 4096 by omega)
  rw [← ht, e]
  exact ⟨by simp, by simp⟩
theorem memM_last {M : Nat} (h0 : M ≠ 0) (hS : Small M) : (memM M 4096).getD ((memM M 4096).length - 1) 0 = (Nat.log2 M : Int) := by
  have hb : M.testBit (Nat.log2 M) = true := Nat.testBit_log2 h0
  have hlt : Nat.log2 M < 4096 := by
    rcases Nat.lt_or_ge (Nat.log2 M) 4096 with h1 | h1
    · exact h1
    · exact absurd hb (by rw [Nat.testBit_lt_two_pow (hS _ (by omega))]; simp)
  have e : memM M 4096 = memM M (Nat.log2 M) ++ [(Nat.log2 M : Int)] := by
    rw [← memM_yes hb]
    have := memM_skip (M := M) (a := Nat.log2 M + 1) (4096 - (Nat.log2 M + 1)) fun i h1 _ => Nat.testBit_lt_two_pow (Nat.lt_of_lt_of_le (Nat.lt_log2_self) (Nat.pow_le_pow_right (by omega) h1))
    rw [show Nat.log2 M + 1 + (4096 - (Nat.log2 M + 1)) = 4096 by omega] at this
    exact this
  rw [e]
  simp [List.getD]
theorem memM_nil {M : Nat} (hS : Small M) : (memM M 4096).length = 0 ↔ M = 0 := by
  rw [List.length_eq_zero_iff]
  constructor
  · intro h
    exact memM_inj hS (by intro i hi; exact Nat.pow_pos (by omega)) (by rw [h, memM_zero])
  · rintro rfl; exact memM_zero _
theorem least_ex {M : Nat} (h0 : M ≠ 0) : ∃ d, LeastS M d := by
  have hex : ∃ d, M.testBit d = true := ⟨_, Nat.testBit_log2 h0⟩
  have key : ∀ n, (∃ d, d ≤ n ∧ M.testBit d = true) → ∃ d, LeastS M d := by
    intro n
    induction n with
    | zero => rintro ⟨d, hd, hb⟩; exact ⟨d, hb, fun i hi => by omega⟩
    | succ n ih =>
      rintro ⟨d, hd, hb⟩
      by_cases h : ∃ d, d ≤ n ∧ M.testBit d = true
      · exact ih h
      · exact ⟨d, hb, fun i hi => by
          cases hv : M.testBit i with
          | false => rfl
          | true => exact absurd ⟨i, by omega, hv⟩ h⟩
  obtain ⟨d, hd⟩ := hex
  exact key d ⟨d, Nat.le_refl _, hd⟩

theorem an_sub {A B : Nat} (h : anN A B = 0) : A ≤ B := by
  refine Nat.le_of_testBit fun i hi => ?_
  have := anN_bit A B i
  rw [h, hi] at this
  simpa using this
theorem canon_le {hs ks : List Nat} {A B : Nat} (h : Canon hs A) (k : Canon ks B) (hle : A ≤ B) : hs.length ≤ ks.length := by
  rcases h.last with e | e
  · omega
  · rcases Nat.lt_or_ge ks.length hs.length with hl | hl
    · exfalso
      apply e
      refine Nat.div_eq_of_lt (Nat.lt_of_le_of_lt hle (Nat.lt_of_lt_of_le k.lt (Nat.pow_le_pow_right (by omega) (by omega))))
    · exact hl
end Go.Proofs.YteaagllpkcpedaaGreatDoor
