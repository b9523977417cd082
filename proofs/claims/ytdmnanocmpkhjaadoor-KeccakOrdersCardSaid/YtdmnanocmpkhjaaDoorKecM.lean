/-
  The plain mathematics of Keccak's rounds, on lists of 25 words. No program is named here.
-/
namespace Go.Proofs.YtdmnanocmpkhjaaDoor

/-- Rotation of a word of 64 bits. -/
def rol (w n : Nat) : Nat := (w * 2 ^ n % 2 ^ 64) ||| (w / 2 ^ (64 - n))
def ln (s : List Nat) (i : Nat) : Nat := s.getD i 0
def trn : List Nat := [0, 1, 62, 28, 27, 36, 44, 6, 55, 20, 3, 10, 43, 25, 39, 41, 45, 15, 21, 8, 18, 2, 61, 56, 14]
def plc : List Nat := [0, 10, 20, 5, 15, 16, 1, 11, 21, 6, 7, 17, 2, 12, 22, 23, 8, 18, 3, 13, 14, 24, 9, 19, 4]
def rcs : List Nat := [0x0000000000000001, 0x0000000000008082, 0x800000000000808a, 0x8000000080008000,
  0x000000000000808b, 0x0000000080000001, 0x8000000080008081, 0x8000000000008009,
  0x000000000000008a, 0x0000000000000088, 0x0000000080008009, 0x000000008000000a,
  0x000000008000808b, 0x800000000000008b, 0x8000000000008089, 0x8000000000008003,
  0x8000000000008002, 0x8000000000000080, 0x000000000000800a, 0x800000008000000a,
  0x8000000080008081, 0x8000000000008080, 0x0000000080000001, 0x8000000080008008]
def colS (s : List Nat) (x : Nat) : Nat := ln s x ^^^ ln s (x + 5) ^^^ ln s (x + 10) ^^^ ln s (x + 15) ^^^ ln s (x + 20)
def colL (s : List Nat) : List Nat := (List.range 5).map (colS s)
def dS (s : List Nat) (x : Nat) : Nat := colS s ((x + 4) % 5) ^^^ rol (colS s ((x + 1) % 5)) 1
/-- Step 1 of a round; and how far it has come behind k columns. -/
def mixS (s : List Nat) : List Nat := (List.range 25).map fun i => ln s i ^^^ dS s (i % 5)
def mixK (s : List Nat) (k : Nat) : List Nat := (List.range 25).map fun i => if i % 5 < k then ln s i ^^^ dS s (i % 5) else ln s i
/-- Step 2: word i is moved to place plc i; and how far it has come behind k words. -/
def movK (s : List Nat) (k : Nat) : List Nat := (List.range k).foldl (fun b i => b.set (plc.getD i 0) (rol (ln s i) (trn.getD i 0))) (List.replicate 25 0)
def movS (s : List Nat) : List Nat := movK s 25

theorem rol_lt {w n : Nat} (hw : w < 2 ^ 64) (_hn : n ≤ 64) : rol w n < 2 ^ 64 := by
  refine Nat.or_lt_two_pow (Nat.mod_lt _ (by decide)) (Nat.lt_of_le_of_lt (Nat.div_le_self _ _) hw)
theorem ln_lt {s : List Nat} (h : ∀ x ∈ s, x < 2 ^ 64) (i : Nat) : ln s i < 2 ^ 64 := by
  unfold ln
  by_cases hi : i < s.length
  · rw [List.getD_eq_getElem?_getD, List.getElem?_eq_getElem hi]; exact h _ (List.getElem_mem hi)
  · rw [List.getD_eq_getElem?_getD, List.getElem?_eq_none (by omega)]; simp
theorem colS_lt {s : List Nat} (h : ∀ x ∈ s, x < 2 ^ 64) (x : Nat) : colS s x < 2 ^ 64 :=
  Nat.xor_lt_two_pow (Nat.xor_lt_two_pow (Nat.xor_lt_two_pow (Nat.xor_lt_two_pow (ln_lt h _) (ln_lt h _)) (ln_lt h _)) (ln_lt h _)) (ln_lt h _)
theorem dS_lt {s : List Nat} (h : ∀ x ∈ s, x < 2 ^ 64) (x : Nat) : dS s x < 2 ^ 64 := Nat.xor_lt_two_pow (colS_lt h _) (rol_lt (colS_lt h _) (by omega))
theorem mixS_lt {s : List Nat} (h : ∀ x ∈ s, x < 2 ^ 64) : ∀ x ∈ mixS s, x < 2 ^ 64 := by
  intro x hx
  simp only [mixS, List.mem_map] at hx
  obtain ⟨i, _, rfl⟩ := hx
  exact Nat.xor_lt_two_pow (ln_lt h _) (dS_lt h _)

theorem mixK_length (s : List Nat) (k : Nat) : (mixK s k).length = 25 := by simp [mixK]
theorem mixS_length (s : List Nat) : (mixS s).length = 25 := by simp [mixS]
theorem mixK_zero {s : List Nat} (h : s.length = 25) : mixK s 0 = s := by
  apply List.ext_getElem
  · simp [mixK, h]
  · intro i h1 h2
    simp [mixK, ln, List.getD, h2]
theorem mixK_five (s : List Nat) : mixK s 5 = mixS s := by
  unfold mixK mixS
  apply List.map_congr_left
  intro i _
  rw [if_pos (Nat.mod_lt _ (by omega))]
theorem mixK_getD (s : List Nat) (k i : Nat) (hi : i < 25) : (mixK s k).getD i 0 = if i % 5 < k then ln s i ^^^ dS s (i % 5) else ln s i := by
  simp [mixK, List.getD, hi]
theorem mixK_succ (s : List Nat) (k : Nat) (hk : k < 5) :
    mixK s (k + 1) = (((((mixK s k).set k (ln s k ^^^ dS s k)).set (k + 5) (ln s (k + 5) ^^^ dS s k)).set (k + 10) (ln s (k + 10) ^^^ dS s k)).set (k + 15) (ln s (k + 15) ^^^ dS s k)).set (k + 20) (ln s (k + 20) ^^^ dS s k) := by
  match k, hk with
  | 0, _ => rfl
  | 1, _ => rfl
  | 2, _ => rfl
  | 3, _ => rfl
  | 4, _ => rfl

theorem movK_length (s : List Nat) (k : Nat) : (movK s k).length = 25 := by
  unfold movK
  induction k with
  | zero => simp
  | succ k ih => rw [List.range_succ, List.foldl_append, List.foldl_cons, List.foldl_nil, List.length_set]; exact ih
theorem movK_succ (s : List Nat) (k : Nat) : movK s (k + 1) = (movK s k).set (plc.getD k 0) (rol (ln s k) (trn.getD k 0)) := by
  unfold movK
  rw [List.range_succ, List.foldl_append]; rfl
theorem plc_lt (k : Nat) : plc.getD k 0 < 25 := by
  by_cases hk : k < 25
  · have : ∀ k, k < 25 → plc.getD k 0 < 25 := by decide
    exact this k hk
  · rw [List.getD_eq_getElem?_getD, List.getElem?_eq_none (by simp [plc]; omega)]; simp
theorem trn_lt (k : Nat) : trn.getD k 0 < 64 := by
  by_cases hk : k < 25
  · have : ∀ k, k < 25 → trn.getD k 0 < 64 := by decide
    exact this k hk
  · rw [List.getD_eq_getElem?_getD, List.getElem?_eq_none (by simp [trn]; omega)]; simp
theorem set_lt {b : List Nat} (hb : ∀ x ∈ b, x < 2 ^ 64) (i y : Nat) (hy : y < 2 ^ 64) : ∀ x ∈ b.set i y, x < 2 ^ 64 := by
  intro x hx
  rcases List.mem_or_eq_of_mem_set hx with h | h
  · exact hb x h
  · rw [h]; exact hy
theorem movK_lt {s : List Nat} (h : ∀ x ∈ s, x < 2 ^ 64) (k : Nat) : ∀ x ∈ movK s k, x < 2 ^ 64 := by
  induction k with
  | zero => intro x hx; simp [movK] at hx; omega
  | succ k ih => rw [movK_succ]; exact set_lt ih _ _ (rol_lt (ln_lt h _) (by have := trn_lt k; omega))

/-- A row of zeros that is filled from its head on. -/
theorem fill_set (xs : List Nat) (n k : Nat) (hn : xs.length = n) (hk : k < n) : (xs.take k ++ List.replicate (n - k) 0).set k (xs.getD k 0) = xs.take (k + 1) ++ List.replicate (n - (k + 1)) 0 := by
  obtain ⟨m, hm⟩ : ∃ m, n - k = m + 1 := ⟨n - k - 1, by omega⟩
  have hl : (xs.take k).length = k := by simp; omega
  rw [List.set_append_right _ _ (by omega), hl, Nat.sub_self, hm, List.replicate_succ, List.set_cons_zero, show n - (k + 1) = m by omega,
    List.take_succ_eq_append_getElem (by omega), List.append_assoc]
  simp [List.getD, show k < xs.length by omega]
end Go.Proofs.YtdmnanocmpkhjaaDoor
