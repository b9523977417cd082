/-
  The plain mathematics of the reference's round: its order of filling gives the same words.
-/
import Derived.Test.YtncieckanngodaaDoorKecR
namespace Go.Proofs.YtncieckanngodaaDoor

def bP (n : Nat) : Nat := n % 5 + 5 * ((2 * (n / 5) + 3 * (n % 5)) % 5)
def bV (s : List Nat) (n : Nat) : Nat := rol (ln s (n / 5 + 5 * (n % 5)) ^^^ dS s (n / 5)) (trn.getD (n / 5 + 5 * (n % 5)) 0)
/-- The words behind n steps of the second loops. -/
def bK (s : List Nat) : Nat → List Nat
  | 0 => List.replicate 25 0
  | n + 1 => (bK s n).set (bP n) (bV s n)
theorem bK_length (s : List Nat) : ∀ n, (bK s n).length = 25
  | 0 => by simp [bK]
  | n + 1 => by rw [bK, List.length_set]; exact bK_length s n
theorem bP_lt (n : Nat) : bP n < 25 := by unfold bP; omega
theorem bV_lt {s : List Nat} (h : ∀ x ∈ s, x < 2 ^ 64) (n : Nat) : bV s n < 2 ^ 64 := rol_lt (Nat.xor_lt_two_pow (ln_lt h _) (dS_lt h _)) (by have := trn_lt (n / 5 + 5 * (n % 5)); omega)
theorem bK_lt {s : List Nat} (h : ∀ x ∈ s, x < 2 ^ 64) : ∀ n, ∀ x ∈ bK s n, x < 2 ^ 64
  | 0, x, hx => by have := List.eq_of_mem_replicate hx; omega
  | n + 1, x, hx => by
    rw [bK] at hx
    exact set_lt (bK_lt h n) _ _ (bV_lt h n) x hx
theorem bP_inj : ∀ m, m < 25 → ∀ n, n < 25 → bP m = bP n → m = n := by decide
theorem bP_plc : ∀ n, n < 25 → plc.getD (n / 5 + 5 * (n % 5)) 0 = bP n := by decide
theorem bP_all : ∀ i, i < 25 → ∃ n, n < 25 ∧ bP n = i := by decide
theorem plc_inj : ∀ m, m < 25 → ∀ n, n < 25 → plc.getD m 0 = plc.getD n 0 → m = n := by decide
theorem getD_set_same (l : List Nat) (i a : Nat) (h : i < l.length) : (l.set i a).getD i 0 = a := by simp [List.getD, h]
theorem getD_set_other (l : List Nat) (i j a : Nat) (h : i ≠ j) : (l.set i a).getD j 0 = l.getD j 0 := by simp [List.getD, h]
theorem bK_at (s : List Nat) : ∀ n, n ≤ 25 → ∀ m, m < n → (bK s n).getD (bP m) 0 = bV s m
  | 0, _, m, hm => by omega
  | n + 1, hn, m, hm => by
    rw [bK]
    by_cases e : m = n
    · subst e; rw [getD_set_same _ _ _ (by rw [bK_length]; exact bP_lt m)]
    · rw [getD_set_other _ _ _ _ (fun h => e (bP_inj n (by omega) m (by omega) h).symm)]
      exact bK_at s n (by omega) m (by omega)
theorem movK_at (s : List Nat) : ∀ n, n ≤ 25 → ∀ m, m < n → (movK s n).getD (plc.getD m 0) 0 = rol (ln s m) (trn.getD m 0)
  | 0, _, m, hm => by omega
  | n + 1, hn, m, hm => by
    rw [movK_succ]
    by_cases e : m = n
    · subst e; rw [getD_set_same _ _ _ (by rw [movK_length]; exact plc_lt m)]
    · rw [getD_set_other _ _ _ _ (fun h => e (plc_inj n (by omega) m (by omega) h).symm)]
      exact movK_at s n (by omega) m (by omega)
theorem ext25 {a b : List Nat} (ha : a.length = 25) (hb : b.length = 25) (h : ∀ i, i < 25 → a.getD i 0 = b.getD i 0) : a = b :=
  List.ext_getElem (by omega) fun i h1 h2 => by
    have := h i (by omega)
    simpa [List.getD, h1, h2] using this
theorem bK_all (s : List Nat) : bK s 25 = movS (mixS s) := by
  refine ext25 (bK_length s 25) (movK_length _ _) fun i hi => ?_
  obtain ⟨n, hn, rfl⟩ := bP_all i hi
  rw [bK_at s 25 (by omega) n hn, ← bP_plc n hn, movS, movK_at _ 25 (by omega) _ (by omega), bV]
  congr 1
  have hm : ln (mixS s) (n / 5 + 5 * (n % 5)) = ln s (n / 5 + 5 * (n % 5)) ^^^ dS s ((n / 5 + 5 * (n % 5)) % 5) := by
    simp [ln, mixS, List.getD, show n / 5 + 5 * (n % 5) < 25 by omega]
  rw [hm, show (n / 5 + 5 * (n % 5)) % 5 = n / 5 by omega]

def oV (b : List Nat) (n : Nat) : Nat := chi1 (ln b (n / 5 + 5 * (n % 5))) (ln b ((n / 5 + 1) % 5 + 5 * (n % 5))) (ln b ((n / 5 + 2) % 5 + 5 * (n % 5)))
def oK (b : List Nat) : Nat → List Nat
  | 0 => List.replicate 25 0
  | n + 1 => (oK b n).set (n / 5 + 5 * (n % 5)) (oV b n)
theorem oK_length (b : List Nat) : ∀ n, (oK b n).length = 25
  | 0 => by simp [oK]
  | n + 1 => by rw [oK, List.length_set]; exact oK_length b n
theorem oV_lt {b : List Nat} (h : ∀ x ∈ b, x < 2 ^ 64) (n : Nat) : oV b n < 2 ^ 64 := chi1_lt (ln_lt h _) (ln_lt h _)
theorem oK_lt {b : List Nat} (h : ∀ x ∈ b, x < 2 ^ 64) : ∀ n, ∀ x ∈ oK b n, x < 2 ^ 64
  | 0, x, hx => by have := List.eq_of_mem_replicate hx; omega
  | n + 1, x, hx => by
    rw [oK] at hx
    exact set_lt (oK_lt h n) _ _ (oV_lt h n) x hx
theorem oP_inj : ∀ m, m < 25 → ∀ n, n < 25 → m / 5 + 5 * (m % 5) = n / 5 + 5 * (n % 5) → m = n := by decide
theorem oK_at (b : List Nat) : ∀ n, n ≤ 25 → ∀ m, m < n → (oK b n).getD (m / 5 + 5 * (m % 5)) 0 = oV b m
  | 0, _, m, hm => by omega
  | n + 1, hn, m, hm => by
    rw [oK]
    by_cases e : m = n
    · subst e; rw [getD_set_same _ _ _ (by rw [oK_length]; omega)]
    · rw [getD_set_other _ _ _ _ (fun h => e (oP_inj n (by omega) m (by omega) h).symm)]
      exact oK_at b n (by omega) m (by omega)
theorem chiS_at (b : List Nat) (n : Nat) (hn : n < 25) : (chiS b).getD (n / 5 + 5 * (n % 5)) 0 = oV b n :=
  match n, hn with
  | 0, _ => rfl
  | 1, _ => rfl
  | 2, _ => rfl
  | 3, _ => rfl
  | 4, _ => rfl
  | 5, _ => rfl
  | 6, _ => rfl
  | 7, _ => rfl
  | 8, _ => rfl
  | 9, _ => rfl
  | 10, _ => rfl
  | 11, _ => rfl
  | 12, _ => rfl
  | 13, _ => rfl
  | 14, _ => rfl
  | 15, _ => rfl
  | 16, _ => rfl
  | 17, _ => rfl
  | 18, _ => rfl
  | 19, _ => rfl
  | 20, _ => rfl
  | 21, _ => rfl
  | 22, _ => rfl
  | 23, _ => rfl
  | 24, _ => rfl
  | n + 25, h => by omega
theorem oK_all (b : List Nat) : oK b 25 = chiS b := by
  refine ext25 (oK_length b 25) (chiS_length b) fun i hi => ?_
  have h1 := oK_at b 25 (by omega) (i / 5 + 5 * (i % 5)) (by omega)
  have h2 := chiS_at b (i / 5 + 5 * (i % 5)) (by omega)
  rw [show (i / 5 + 5 * (i % 5)) / 5 + 5 * ((i / 5 + 5 * (i % 5)) % 5) = i by omega] at h1 h2
  rw [h1, h2]
end Go.Proofs.YtncieckanngodaaDoor
