/-
  Plain words on union, intersection and difference of sets that are numbers, word by word. No program is named here.
-/
import Derived.Test.YtccanbjnbmihgaaDoorSetM
import Derived.Laws.BitsAllLaws
namespace Go.Proofs.YtccanbjnbmihgaaDoor

/-- What a has and b has not. -/
def anN (a b : Nat) : Nat := a ^^^ (a &&& b)
theorem anN_bit (a b i : Nat) : (anN a b).testBit i = (a.testBit i && !b.testBit i) := by
  unfold anN
  rw [Nat.testBit_xor, Nat.testBit_and]
  cases a.testBit i <;> cases b.testBit i <;> rfl
theorem anN_zero (a : Nat) : anN a 0 = a := by simp [anN]
theorem anN_le (a b : Nat) : anN a b ≤ a := by
  refine Nat.le_of_testBit ?_
  intro i h
  rw [anN_bit] at h
  simp at h
  exact h.1
theorem u64_anN (a b : Nat) (ha : a < 18446744073709551616) (hb : b < 18446744073709551616) : bits .andNot .u64 (a : Int) (b : Int) = ((anN a b : Nat) : Int) := by
  rw [u64_andNot_nat a b ha hb]
  congr 1
  refine Nat.eq_of_testBit_eq fun i => ?_
  rw [anN_bit, Nat.testBit_and, show (18446744073709551615 - b : Nat) = 2 ^ 64 - (b + 1) by omega, Nat.testBit_two_pow_sub_succ (by omega)]
  by_cases hi : i < 64
  · simp [hi]
  · have : a.testBit i = false := Nat.testBit_lt_two_pow (Nat.lt_of_lt_of_le ha (by rw [show (18446744073709551616 : Nat) = 2 ^ 64 from rfl]; exact Nat.pow_le_pow_right (by omega) (by omega)))
    simp [this]

def wordN (M k : Nat) : Nat := M / 2 ^ (64 * k) % 2 ^ 64
theorem wordN_lt (M k : Nat) : wordN M k < 18446744073709551616 := Nat.mod_lt _ (by decide)
theorem wordN_bit (M k i : Nat) : (wordN M k).testBit i = (decide (i < 64) && M.testBit (i + 64 * k)) := by
  unfold wordN
  rw [Nat.testBit_mod_two_pow, Nat.testBit_div_two_pow]
theorem wordN_an (M K k : Nat) : wordN (anN M K) k = anN (wordN M k) (wordN K k) := by
  refine Nat.eq_of_testBit_eq fun i => ?_
  simp only [wordN_bit, anN_bit]
  cases decide (i < 64) <;> simp
theorem wordN_and (M K k : Nat) : wordN (M &&& K) k = wordN M k &&& wordN K k := by
  refine Nat.eq_of_testBit_eq fun i => ?_
  simp only [wordN_bit, Nat.testBit_and]
  cases decide (i < 64) <;> simp
theorem wordN_or (M K k : Nat) : wordN (M ||| K) k = wordN M k ||| wordN K k := by
  refine Nat.eq_of_testBit_eq fun i => ?_
  simp only [wordN_bit, Nat.testBit_or]
  cases decide (i < 64) <;> simp
theorem mod_an (M K : Nat) : anN M K % 2 ^ 64 = anN (M % 2 ^ 64) (K % 2 ^ 64) := by
  have := wordN_an M K 0
  simpa [wordN] using this
theorem mod_and (M K : Nat) : (M &&& K) % 2 ^ 64 = (M % 2 ^ 64) &&& (K % 2 ^ 64) := by
  have := wordN_and M K 0
  simpa [wordN] using this
theorem mod_or (M K : Nat) : (M ||| K) % 2 ^ 64 = (M % 2 ^ 64) ||| (K % 2 ^ 64) := by
  have := wordN_or M K 0
  simpa [wordN] using this
theorem div_an (M K n : Nat) : anN M K / 2 ^ n = anN (M / 2 ^ n) (K / 2 ^ n) := by
  refine Nat.eq_of_testBit_eq fun i => ?_
  simp only [anN_bit, Nat.testBit_div_two_pow]
theorem div_and (M K n : Nat) : (M &&& K) / 2 ^ n = (M / 2 ^ n) &&& (K / 2 ^ n) := by
  refine Nat.eq_of_testBit_eq fun i => ?_
  simp only [Nat.testBit_and, Nat.testBit_div_two_pow]
theorem div_or (M K n : Nat) : (M ||| K) / 2 ^ n = (M / 2 ^ n) ||| (K / 2 ^ n) := by
  refine Nat.eq_of_testBit_eq fun i => ?_
  simp only [Nat.testBit_or, Nat.testBit_div_two_pow]

/-- Words of which those below k are done. -/
def mixG (g h : Nat → Nat) (n k : Nat) : List Nat := (List.range n).map fun j => if j < k then g j else h j
theorem mixG_length (g h : Nat → Nat) (n k : Nat) : (mixG g h n k).length = n := by simp [mixG]
theorem mixG_getD (g h : Nat → Nat) (n k : Nat) (hk : k < n) : (mixG g h n k).getD k 0 = h k := by
  simp [mixG, List.getD, hk]
theorem mixG_set (g h : Nat → Nat) (n k : Nat) (_hk : k < n) : (mixG g h n k).set k (g k) = mixG g h n (k + 1) := by
  refine List.ext_getElem (by simp [mixG]) fun i h1 h2 => ?_
  rw [List.getElem_set]
  simp only [mixG, List.getElem_map, List.getElem_range]
  by_cases hi : k = i
  · subst hi; simp
  · rw [if_neg hi]
    by_cases h3 : i < k
    · rw [if_pos h3, if_pos (by omega)]
    · rw [if_neg h3, if_neg (by omega)]
theorem mixG_zero (g h : Nat → Nat) (n : Nat) : mixG g h n 0 = (List.range n).map h := by simp [mixG]
theorem mixG_end (g h : Nat → Nat) (n k : Nat) (hk : ∀ j, k ≤ j → j < n → g j = h j) : mixG g h n k = (List.range n).map g := by
  refine List.ext_getElem (by simp [mixG]) fun i h1 h2 => ?_
  simp only [mixG, List.getElem_map, List.getElem_range]
  have hi : i < n := by simpa using h2
  split
  · rfl
  · exact (hk i (by omega) hi).symm
theorem wl_word (M n : Nat) : wl M n = (List.range n).map (wordN M) := rfl

/-- A word behind the last one is 0. -/
theorem canon_word {hs : List Nat} {M : Nat} (h : Canon hs M) (j : Nat) (hj : hs.length ≤ j) : wordN M j = 0 := by
  have : M < 2 ^ (64 * j) := Nat.lt_of_lt_of_le h.lt (Nat.pow_le_pow_right (by omega) (by omega))
  simp [wordN, Nat.div_eq_of_lt this]
theorem canon_getD {hs : List Nat} {M : Nat} (h : Canon hs M) (j : Nat) (hj : j < hs.length) : hs.getD j 0 = wordN M j := by
  rw [h.eq, wl_getD _ _ _ hj]; rfl
theorem canon_or {hs ks : List Nat} {M K : Nat} (h : Canon hs M) (k : Canon ks K) (hl : ks.length ≤ hs.length) : Canon (wl (M ||| K) hs.length) (M ||| K) := by
  refine ⟨by rw [wl_length], ?_, ?_⟩
  · rw [wl_length]
    exact Nat.or_lt_two_pow h.lt (Nat.lt_of_lt_of_le k.lt (Nat.pow_le_pow_right (by omega) (by omega)))
  · rw [wl_length]
    rcases h.last with e | e
    · exact Or.inl e
    · refine Or.inr fun e2 => e ?_
      rw [div_or] at e2
      exact Nat.le_antisymm (e2 ▸ Nat.left_le_or) (Nat.zero_le _)
theorem small_or {M K : Nat} (h : Small M) (k : Small K) : Small (M ||| K) := fun e he => Nat.or_lt_two_pow (h e he) (k e he)
theorem small_and {M K : Nat} (h : Small M) : Small (M &&& K) := fun e he => Nat.lt_of_le_of_lt Nat.and_le_left (h e he)
theorem small_an {M K : Nat} (h : Small M) : Small (anN M K) := fun e he => Nat.lt_of_le_of_lt (anN_le _ _) (h e he)

theorem ones_full (n k : Nat) (h : 64 * (k + 1) ≤ n) : wordN (2 ^ n - 1) k = 18446744073709551615 := by
  refine Nat.eq_of_testBit_eq fun i => ?_
  rw [wordN_bit, Nat.testBit_two_pow_sub_one, show (18446744073709551615 : Nat) = 2 ^ 64 - 1 from rfl, Nat.testBit_two_pow_sub_one]
  by_cases hi : i < 64
  · have : i + 64 * k < n := by omega
    simp [hi, this]
  · simp [hi]
theorem ones_part (n k : Nat) (h1 : 64 * k ≤ n) (h2 : n < 64 * (k + 1)) : wordN (2 ^ n - 1) k = 2 ^ (n - 64 * k) - 1 := by
  refine Nat.eq_of_testBit_eq fun i => ?_
  rw [wordN_bit, Nat.testBit_two_pow_sub_one, Nat.testBit_two_pow_sub_one]
  by_cases hi : i < 64
  · have : (i + 64 * k < n) ↔ (i < n - 64 * k) := by omega
    simp [hi, this]
  · have : ¬ i < n - 64 * k := by omega
    simp [hi, this]
def clampN (n : Int) : Nat := if n < 0 then 0 else if n ≤ 4096 then n.toNat else 4096
theorem clampN_le (n : Int) : clampN n ≤ 4096 := by
  unfold clampN
  split
  · omega
  · split <;> omega
theorem ones_small (n : Nat) (h : n ≤ 4096) : Small (2 ^ n - 1) := fun e he => Nat.lt_of_lt_of_le (Nat.sub_lt (Nat.pow_pos (by omega)) (by omega)) (Nat.pow_le_pow_right (by omega) (by omega))
end Go.Proofs.YtccanbjnbmihgaaDoor
