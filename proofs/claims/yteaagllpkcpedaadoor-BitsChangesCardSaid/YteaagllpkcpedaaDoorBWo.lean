/-
  bits.Set: Without; Has, With of any number.
-/
import Derived.Test.YteaagllpkcpedaaDoorBMi
import Derived.Test.YteaagllpkcpedaaDoorBCo
namespace Go.Proofs.YteaagllpkcpedaaDoor
open Go.RowKit

/-- The set without a number. -/
def subM (M : Nat) (i : Int) : Nat := if 0 ≤ i ∧ i ≤ 4095 then anN M (2 ^ i.toNat) else M
theorem small_sub {M : Nat} {i : Int} (h : Small M) : Small (subM M i) := by
  unfold subM; split
  · exact small_an h
  · exact h
theorem small_add {M : Nat} {i : Int} (h : Small M) : Small (addM M i) := by
  unfold addM; split
  · rename_i hi
    exact small_with h (by omega)
  · exact h
theorem an_no (M i : Nat) (h : M.testBit i = false) : anN M (2 ^ i) = M := by
  refine Nat.eq_of_testBit_eq fun j => ?_
  rw [anN_bit, Nat.testBit_two_pow]
  by_cases e : i = j
  · subst e; simp [h]
  · simp [e]
theorem pow_low_mod {i : Nat} (h : i < 64) : 2 ^ i % 2 ^ 64 = 2 ^ i := Nat.mod_eq_of_lt (Nat.pow_lt_pow_right (by omega) h)
theorem pow_low_div {i : Nat} (h : i < 64) : 2 ^ i / 2 ^ 64 = 0 := Nat.div_eq_of_lt (Nat.pow_lt_pow_right (by omega) h)
theorem pow_high_mod {i : Nat} (h : 64 ≤ i) : 2 ^ i % 2 ^ 64 = 0 := by
  obtain ⟨d, rfl⟩ : ∃ d, i = 64 + d := ⟨i - 64, by omega⟩
  rw [Nat.pow_add, Nat.mul_mod_right]
theorem pow_high_div {i : Nat} (h : 64 ≤ i) : 2 ^ i / 2 ^ 64 = 2 ^ (i - 64) := by
  obtain ⟨d, rfl⟩ : ∃ d, i = 64 + d := ⟨i - 64, by omega⟩
  rw [Nat.pow_add, Nat.mul_div_cancel_left _ (Nat.pow_pos (by omega))]
  congr 1; omega
theorem word_pow (j k : Nat) : wordN (2 ^ j) k = if k = j / 64 then 2 ^ (j % 64) else 0 := by
  refine Nat.eq_of_testBit_eq fun i => ?_
  rw [wordN_bit, Nat.testBit_two_pow]
  split
  · rename_i h
    rw [Nat.testBit_two_pow]
    by_cases hi : i < 64
    · have : (j = i + 64 * k) ↔ (j % 64 = i) := by omega
      simp [hi, this]
    · simp [hi]; omega
  · rename_i h
    by_cases hi : i < 64
    · simp [hi]; omega
    · simp [hi]
theorem wl_sub (N m j : Nat) (_h : j / 64 < m) : (wl N m).set (j / 64) (anN ((wl N m).getD (j / 64) 0) (2 ^ (j % 64))) = wl (anN N (2 ^ j)) m := by
  refine List.ext_getElem (by simp [wl]) fun k h1 h2 => ?_
  have hk : k < m := by simpa [wl] using h2
  rw [List.getElem_set]
  have e : (wl (anN N (2 ^ j)) m)[k] = wordN (anN N (2 ^ j)) k := by simp [wl, wordN]
  rw [e, wordN_an, word_pow]
  by_cases hq : j / 64 = k
  · rw [if_pos hq, if_pos hq.symm, wl_getD _ _ _ (by omega), hq]; rfl
  · rw [if_neg hq, if_neg (fun h => hq h.symm), anN_zero]
    simp [wl, wordN]

set_option maxRecDepth 100000 in
set_option maxHeartbeats 1600000 in
theorem has_out (w : World) (v : Value) (M : Nat) (i : Int) (h : SetV w v M) (hi : i < 0 ∨ 4095 < i) :
    Calls Tryd.prog 20 #[v, .int .i64 i] w fun e w' => e = .returned (.bool false) ∧ Kept (fun _ => False) w w' := by
  obtain ⟨hv, hs, rfl, hw, hc, _⟩ := h.ex
  clear hw hc
  generalize M % 2 ^ 64 = lo
  have hi2 : ¬ (0 ≤ i ∧ i ≤ 4095) := by omega
  have KA := Lib.hid (Kept.alloc (fun _ => False) w (.cells #[.int .u64 lo, hv] 28))
  go_enter Tryd.func20, Tryd.ntmps20
  go_wp2_with fail
  refine (possible_no _ _ (by omega)).mono ?_
  rintro e w1 ⟨rfl, rfl⟩
  go_wp2_with fail
  go_ret
  exact ⟨by simp, KA.out⟩

/-- Has, of any number. -/
theorem hasI_any (w : World) (v : Value) (M : Nat) (i : Int) (h : SetV w v M) :
    Calls Tryd.prog 20 #[v, .int .i64 i] w fun e w' => e = .returned (.bool (decide (0 ≤ i ∧ i ≤ 4095) && M.testBit i.toNat)) ∧ Kept (fun _ => False) w w' := by
  by_cases hi : 0 ≤ i ∧ i ≤ 4095
  · obtain ⟨n, rfl⟩ := Int.eq_ofNat_of_zero_le hi.1
    have := has_any w v M n h (by omega)
    simpa [hi] using this
  · have := has_out w v M i h (by omega)
    simpa [hi] using this

set_option maxRecDepth 100000 in
set_option maxHeartbeats 1600000 in
theorem with_out (w : World) (v : Value) (M : Nat) (i : Int) (h : SetV w v M) (hi : i < 0 ∨ 4095 < i) :
    Calls Tryd.prog 16 #[v, .int .i64 i] w fun e w' => e = .returned v ∧ Kept (fun _ => False) w w' := by
  obtain ⟨hv, hs, rfl, hw, hc, _⟩ := h.ex
  obtain ⟨a, c, rfl⟩ := hw.form
  clear hw hc
  generalize M % 2 ^ 64 = lo
  generalize hs.length = n
  have KA : Hid (Kept (fun _ => False) w ((w.alloc (.cells #[.int .u64 lo, .slice a n c] 28)).alloc (.cells #[.int .u64 lo, .slice a n c] 28))) := (Kept.alloc _ _ _).then (Kept.alloc _ _ _)
  go_enter Tryd.func16, Tryd.ntmps16
  go_wp2_with fail
  refine (possible_no _ _ (by omega)).mono ?_
  rintro e w1 ⟨rfl, rfl⟩
  go_wp2_with fail
  refine bodyPost_ret (v := .agg #[.int .u64 lo, .slice a n c]) (by simp [results, Tryd.results16, go_sem]) rfl ⟨rfl, KA.out⟩

/-- With, of any number. -/
theorem withI_any (w : World) (v : Value) (M : Nat) (i : Int) (h : SetV w v M) (hS : Small M) :
    Calls Tryd.prog 16 #[v, .int .i64 i] w fun e w' => ∃ v', e = .returned v' ∧ SetV w' v' (addM M i) ∧ (∀ k, setBlk v' k → setBlk v k ∨ w.heap.size ≤ k) ∧ Kept (fun _ => False) w w' := by
  by_cases hi : 0 ≤ i ∧ i ≤ 4095
  · obtain ⟨n, rfl⟩ := Int.eq_ofNat_of_zero_le hi.1
    have := with_any w v M n h hS (by omega)
    rw [addM, if_pos hi]
    exact this
  · refine (with_out w v M i h (by omega)).mono ?_
    rintro e w' ⟨rfl, hk⟩
    rw [addM, if_neg hi]
    exact ⟨v, rfl, h.onC hk, fun k hk => Or.inl hk, hk⟩
end Go.Proofs.YteaagllpkcpedaaDoor
