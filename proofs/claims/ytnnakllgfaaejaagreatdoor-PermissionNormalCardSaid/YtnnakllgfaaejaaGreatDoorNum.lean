/-
  Plain words on numbers in groups of seven bits: 'enc' (the encoding), 'numberS' (what is read at the front of bytes), and that what was encoded is read back. No program is named here.
-/
namespace Go.Proofs.YtnnakllgfaaejaaGreatDoor

/-- The groups ahead of the last one. -/
def encHi (v : Nat) : List Nat := if v = 0 then [] else encHi (v / 128) ++ [v % 128 + 128]
termination_by v
decreasing_by omega

/-- The encoding of a number. -/
def enc (v : Nat) : List Nat := encHi (v / 128) ++ [v % 128]

theorem encHi_zero : encHi 0 = [] := by rw [encHi]; rfl
theorem encHi_pos {v : Nat} (h : v ≠ 0) : encHi v = encHi (v / 128) ++ [v % 128 + 128] := by
  conv => lhs; rw [encHi]
  rw [if_neg h]

theorem encHi_len : ∀ (n v : Nat), v < 128 ^ n → (encHi v).length ≤ n
  | 0, v, h => by
    have : v = 0 := by simpa using h
    subst this; simp [encHi_zero]
  | n + 1, v, h => by
    by_cases hv : v = 0
    · subst hv; simp [encHi_zero]
    · rw [encHi_pos hv]
      have := encHi_len n (v / 128) (by rw [Nat.pow_succ] at h; omega)
      simp; omega

theorem enc_len {v : Nat} (h : v < 18446744073709551616) : (enc v).length ≤ 10 := by
  have := encHi_len 9 (v / 128) (by have : (128 : Nat) ^ 9 = 9223372036854775808 := by decide
                                    omega)
  simp [enc]; omega
theorem enc_pos (v : Nat) : 0 < (enc v).length := by simp [enc]

theorem encHi_byte : ∀ (n v : Nat), v ≤ n → ∀ b ∈ encHi v, 128 ≤ b ∧ b < 256
  | 0, v, h => by
    have : v = 0 := by omega
    subst this; simp [encHi_zero]
  | n + 1, v, h => by
    by_cases hv : v = 0
    · subst hv; simp [encHi_zero]
    · intro b hb
      rw [encHi_pos hv, List.mem_append] at hb
      rcases hb with hb | hb
      · exact encHi_byte n (v / 128) (by omega) b hb
      · simp at hb; omega

theorem enc_byte (v : Nat) : ∀ b ∈ enc v, b < 256 := by
  intro b hb
  rw [enc, List.mem_append] at hb
  rcases hb with hb | hb
  · exact (encHi_byte _ _ (Nat.le_refl _) b hb).2
  · simp at hb; omega

/-- The loop over the bytes: v so far, i bytes behind. -/
def numLoop (v i : Nat) : List Nat → Nat × Nat
  | [] => (0, 0)
  | b :: t => if v / 144115188075855872 ≠ 0 then (0, 0) else if b < 128 then (v * 128 + b % 128, i + 1) else numLoop (v * 128 + b % 128) (i + 1) t

/-- The number at the front of bytes, and how many bytes it has; 0 and 0: there is none. -/
def numberS (p : List Nat) : Nat × Nat := if 1 < p.length ∧ p.getD 0 0 = 128 then (0, 0) else numLoop 0 0 p

theorem numLoop_hi : ∀ (n u i : Nat) (rest : List Nat), u ≤ n → u < 18446744073709551616 → numLoop 0 i (encHi u ++ rest) = numLoop u (i + (encHi u).length) rest
  | 0, u, i, rest, h, _ => by
    have : u = 0 := by omega
    subst this; simp [encHi_zero]
  | n + 1, u, i, rest, h, hb => by
    by_cases hv : u = 0
    · subst hv; simp [encHi_zero]
    · rw [encHi_pos hv, List.append_assoc, numLoop_hi n (u / 128) i _ (by omega) (by omega)]
      simp only [List.singleton_append, List.length_append, List.length_singleton]
      rw [numLoop, if_neg (by omega), if_neg (by omega)]
      congr 1
      omega

theorem encHi_head : ∀ (n u : Nat), u ≤ n → u ≠ 0 → (encHi u).getD 0 0 ≠ 128 ∧ (encHi u) ≠ []
  | 0, u, h, h0 => by omega
  | n + 1, u, h, h0 => by
    rw [encHi_pos h0]
    by_cases h1 : u / 128 = 0
    · rw [h1, encHi_zero]; simp; omega
    · have ⟨h2, h3⟩ := encHi_head n (u / 128) (by omega) h1
      refine ⟨?_, by simp⟩
      rw [List.getD_eq_getElem?_getD, List.getElem?_append_left (List.length_pos_iff.2 h3), ← List.getD_eq_getElem?_getD]
      exact h2

theorem numberS_enc {v : Nat} (rest : List Nat) (hv : v < 18446744073709551616) : numberS (enc v ++ rest) = (v, (enc v).length) := by
  have hh : ¬ (1 < (enc v ++ rest).length ∧ (enc v ++ rest).getD 0 0 = 128) := by
    rintro ⟨_, h⟩
    by_cases h1 : v / 128 = 0
    · rw [enc, h1, encHi_zero] at h; simp at h; omega
    · have ⟨h2, h3⟩ := encHi_head _ (v / 128) (Nat.le_refl _) h1
      rw [enc, List.append_assoc, List.getD_eq_getElem?_getD, List.getElem?_append_left (List.length_pos_iff.2 h3), ← List.getD_eq_getElem?_getD] at h
      exact h2 h
  rw [numberS, if_neg hh, enc, List.append_assoc, numLoop_hi _ _ _ _ (Nat.le_refl _) (by omega)]
  simp only [List.singleton_append, List.length_append, List.length_singleton]
  rw [numLoop, if_neg (by omega), if_pos (by omega)]
  congr 1 <;> omega

theorem numLoop_le : ∀ (p : List Nat) (v i : Nat), (numLoop v i p).2 ≤ i + p.length
  | [], v, i => by simp [numLoop]
  | b :: t, v, i => by
    rw [numLoop]
    split
    · simp
    · split
      · simp
      · have := numLoop_le t (v * 128 + b % 128) (i + 1)
        simp; omega

theorem numberS_le (p : List Nat) : (numberS p).2 ≤ p.length := by
  unfold numberS
  split
  · simp
  · have := numLoop_le p 0 0; omega

theorem numLoop_lt : ∀ (p : List Nat) (v i : Nat), (numLoop v i p).1 < 18446744073709551616
  | [], v, i => by simp [numLoop]
  | b :: t, v, i => by
    rw [numLoop]
    split
    · simp
    · split
      · simp; omega
      · exact numLoop_lt t _ _

theorem numberS_lt (p : List Nat) : (numberS p).1 < 18446744073709551616 := by
  unfold numberS
  split
  · simp
  · exact numLoop_lt p 0 0

end Go.Proofs.YtnnakllgfaaejaaGreatDoor
