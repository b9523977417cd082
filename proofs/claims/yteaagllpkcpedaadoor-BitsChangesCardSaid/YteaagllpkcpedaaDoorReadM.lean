/-
  Plain words on the number that bytes stand for (byte number i has the value 256^i). No program is named here.
-/
import Derived.Test.YteaagllpkcpedaaDoorSetM
import Derived.Laws.BitsAllLaws
namespace Go.Proofs.YteaagllpkcpedaaDoor

def numLE : List Nat → Nat
  | [] => 0
  | b :: t => b + 256 * numLE t

theorem numLE_lt : ∀ (p : List Nat), (∀ b ∈ p, b < 256) → numLE p < 2 ^ (8 * p.length)
  | [], _ => by simp [numLE]
  | b :: t, h => by
    have h1 := numLE_lt t fun x hx => h x (List.mem_cons_of_mem _ hx)
    have h2 := h b List.mem_cons_self
    rw [numLE, List.length_cons, show 8 * (t.length + 1) = 8 * t.length + 8 by omega, Nat.pow_add]
    omega

theorem numLE_append : ∀ (p q : List Nat), numLE (p ++ q) = numLE p + 2 ^ (8 * p.length) * numLE q
  | [], q => by simp [numLE]
  | b :: t, q => by
    rw [List.cons_append, numLE, numLE_append t q, numLE, List.length_cons, show 8 * (t.length + 1) = 8 * t.length + 8 by omega, Nat.pow_add, Nat.mul_add, show (2 : Nat) ^ 8 = 256 from rfl]
    rw [show 256 * (2 ^ (8 * t.length) * numLE q) = 2 ^ (8 * t.length) * 256 * numLE q by rw [Nat.mul_comm _ 256, Nat.mul_assoc]]
    omega

theorem numLE_snoc (p : List Nat) (k : Nat) (hk : k < p.length) (h : ∀ b ∈ p, b < 256) :
    numLE (p.take (k + 1)) = numLE (p.take k) ||| (p.getD k 0 * 2 ^ (8 * k)) := by
  have hl : (p.take k).length = k := by simp; omega
  have hlt := numLE_lt (p.take k) fun b hb => h b (List.mem_of_mem_take hb)
  rw [hl] at hlt
  rw [List.take_succ_eq_append_getElem hk, numLE_append, hl]
  rw [Nat.or_comm, nat_join (8 * k) _ _ (Nat.mul_mod_left _ _) hlt]
  simp [numLE, List.getD, hk, Nat.mul_comm, Nat.add_comm]

theorem word_byte (M b k j : Nat) (hb : b < 256) : (M ||| b * 2 ^ (8 * k)) / 2 ^ (64 * j) % 2 ^ 64 = if j = k / 8 then (M / 2 ^ (64 * j) % 2 ^ 64) ||| b * 2 ^ (8 * (k % 8)) else M / 2 ^ (64 * j) % 2 ^ 64 := by
  refine Nat.eq_of_testBit_eq fun i => ?_
  have hbig : ∀ m, 8 ≤ m → b.testBit m = false := fun m hm => Nat.testBit_lt_two_pow (Nat.lt_of_lt_of_le hb (by
    have := Nat.pow_le_pow_right (n := 2) (by omega) hm
    simpa using this))
  rw [Nat.testBit_mod_two_pow, Nat.testBit_div_two_pow, Nat.testBit_or, Nat.testBit_mul_two_pow]
  split
  · rename_i hj
    rw [Nat.testBit_or, Nat.testBit_mod_two_pow, Nat.testBit_div_two_pow, Nat.testBit_mul_two_pow]
    by_cases hi : i < 64
    · by_cases h1 : 8 * (k % 8) ≤ i
      · have h2 : 8 * k ≤ i + 64 * j := by omega
        have h3 : i + 64 * j - 8 * k = i - 8 * (k % 8) := by omega
        simp [hi, h1, h2, h3]
      · have h2 : ¬ 8 * k ≤ i + 64 * j := by omega
        simp [hi, h1, h2]
    · have h3 := hbig (i - 8 * (k % 8)) (by omega)
      simp [hi, h3]
  · rename_i hj
    rw [Nat.testBit_mod_two_pow, Nat.testBit_div_two_pow]
    by_cases hi : i < 64
    · by_cases h2 : 8 * k ≤ i + 64 * j
      · have h3 := hbig (i + 64 * j - 8 * k) (by omega)
        simp [h3]
      · simp [h2]
    · simp [hi]

theorem wl_byte (M n b k : Nat) (hb : b < 256) : (wl M n).set (k / 8) ((wl M n).getD (k / 8) 0 ||| b * 2 ^ (8 * (k % 8))) = wl (M ||| b * 2 ^ (8 * k)) n := by
  refine List.ext_getElem (by simp [wl]) fun j h1 h2 => ?_
  have hj : j < n := by simpa [wl] using h2
  rw [List.getElem_set]
  have e : (wl (M ||| b * 2 ^ (8 * k)) n)[j] = (M ||| b * 2 ^ (8 * k)) / 2 ^ (64 * j) % 2 ^ 64 := by simp [wl]
  rw [e, word_byte _ _ _ _ hb]
  by_cases hq : k / 8 = j
  · rw [if_pos hq, if_pos hq.symm, wl_getD _ _ _ (by omega), hq]
  · rw [if_neg hq, if_neg (fun h => hq h.symm)]
    simp [wl]

theorem numLE_byte (p : List Nat) (k : Nat) (hk : k < p.length) (h : ∀ b ∈ p, b < 256) : numLE p / 2 ^ (8 * k) % 256 = p.getD k 0 := by
  have hl : (p.take k).length = k := by simp; omega
  have hlt := numLE_lt (p.take k) fun b hb => h b (List.mem_of_mem_take hb)
  rw [hl] at hlt
  have e : numLE p = numLE (p.take k) + 2 ^ (8 * k) * numLE (p.drop k) := by
    conv => lhs; rw [← List.take_append_drop k p, numLE_append, hl]
  rw [e, Nat.add_mul_div_left _ _ (Nat.pow_pos (by omega)), Nat.div_eq_of_lt hlt, Nat.zero_add, List.drop_eq_getElem_cons hk, numLE]
  have hb := h p[k] (List.getElem_mem _)
  rw [Nat.add_mul_mod_self_left, Nat.mod_eq_of_lt hb]
  simp [List.getD, hk]

/-- Bytes without a zero byte at the end are those of their number. -/
theorem bytesOf_numLE (p : List Nat) (h : ∀ b ∈ p, b < 256) (hl : p.length = 0 ∨ p.getD (p.length - 1) 0 ≠ 0) : bytesOf (numLE p) = p := by
  by_cases h0 : p.length = 0
  · have : p = [] := List.eq_nil_of_length_eq_zero h0
    subst this
    rfl
  · have hlast := hl.resolve_left h0
    have hb := numLE_byte p (p.length - 1) (by omega) h
    rw [← hb] at hlast
    have hlt := numLE_lt p h
    have hge : 2 ^ (8 * (p.length - 1)) ≤ numLE p := by
      rcases Nat.lt_or_ge (numLE p) (2 ^ (8 * (p.length - 1))) with hh | hh
      · rw [Nat.div_eq_of_lt hh] at hlast; exact absurd rfl hlast
      · exact hh
    have hne : numLE p ≠ 0 := by
      have : 0 < 2 ^ (8 * (p.length - 1)) := Nat.pow_pos (by omega)
      omega
    have l1 : Nat.log2 (numLE p) < 8 * p.length := (Nat.log2_lt hne).2 hlt
    have l2 : 8 * (p.length - 1) ≤ Nat.log2 (numLE p) := (Nat.le_log2 hne).2 hge
    rw [bytesOf, if_neg hne, show Nat.log2 (numLE p) / 8 + 1 = p.length by omega]
    refine List.ext_getElem (by simp [bl8]) fun i h1 h2 => ?_
    have := numLE_byte p i h2 h
    simp only [bl8, List.getElem_map, List.getElem_range]
    rw [this]
    simp [List.getD, h2]

theorem numLE_small (p : List Nat) (h : ∀ b ∈ p, b < 256) (hl : p.length ≤ 512) : Small (numLE p) := by
  intro e he
  exact Nat.lt_of_lt_of_le (numLE_lt p h) (Nat.pow_le_pow_right (Nat.succ_pos 1) (by omega))

end Go.Proofs.YteaagllpkcpedaaDoor
