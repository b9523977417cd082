/-
  bits.Set: Has; With of a member below 64 or that is there.
-/
import Derived.Test.YtccanbjnbmihgaaDoorOf
import Derived.StillTailTactics
namespace Go.Proofs.YtccanbjnbmihgaaDoor
open Go.RowKit

theorem word_bit (M i : Nat) : (M / 2 ^ (64 * (i / 64)) % 2 ^ 64) &&& 2 ^ (i % 64) = if M.testBit i = true then 2 ^ (i % 64) else 0 := by
  apply Nat.eq_of_testBit_eq
  intro j
  rw [Nat.testBit_and, Nat.testBit_mod_two_pow, Nat.testBit_div_two_pow, Nat.testBit_two_pow]
  by_cases hj : i % 64 = j
  · subst hj
    have h1 : i % 64 < 64 := Nat.mod_lt _ (by omega)
    have h3 : i % 64 + 64 * (i / 64) = i := by omega
    cases hM : M.testBit i <;> simp [h1, h3, hM]
  · cases hM : M.testBit i <;> simp [hj]

set_option maxRecDepth 100000 in
set_option maxHeartbeats 1600000 in
theorem has_any (w : World) (v : Value) (M i : Nat) (h : SetV w v M) (hi : i ≤ 4095) :
    Calls Tryd.prog 32 #[v, .int .i64 i] w fun e w' => e = .returned (.bool (M.testBit i)) ∧ Kept (fun _ => False) w w' := by
  obtain ⟨hv, hs, rfl, hw, hc, _⟩ := h.ex
  obtain ⟨k, hk⟩ : ∃ k, k = i / 64 := ⟨_, rfl⟩
  obtain ⟨lo, hlo⟩ : ∃ lo, lo = M % 2 ^ 64 := ⟨_, rfl⟩
  obtain ⟨y, hy⟩ : ∃ y, y = M / 2 ^ (64 * k) % 2 ^ 64 := ⟨_, rfl⟩
  obtain ⟨b, hb⟩ : ∃ b, b = 2 ^ (i % 64) := ⟨_, rfl⟩
  have hwd : wd lo hs k = y := by rw [hlo, hy]; exact wd_word M hs hc k
  have hyl : y < 2 ^ 64 := by rw [hy]; exact Nat.mod_lt _ (by decide)
  have hbl : b < 2 ^ 64 := by rw [hb]; exact Nat.pow_lt_pow_right (by omega) (Nat.mod_lt _ (by omega))
  have hb0 : b ≠ 0 := by rw [hb]; exact Nat.ne_of_gt (Nat.pow_pos (by omega))
  have hand : y &&& b = if M.testBit i = true then b else 0 := by rw [hy, hb, hk]; exact word_bit M i
  obtain ⟨T, hT⟩ : ∃ T, T = M.testBit i := ⟨_, rfl⟩
  rw [← hT] at hand ⊢
  have hxa : bits .and .u64 (y : Int) (b : Int) = ((y &&& b : Nat) : Int) := by rw [u64_and_nat _ _ (by omega) (by omega)]
  obtain ⟨z, hz⟩ : ∃ z, z = y &&& b := ⟨_, rfl⟩
  rw [← hz] at hxa hand
  have hkw := hw.kept (Kept.alloc (fun _ => False) w (.cells #[.int .u64 lo, hv] 56)) (fun _ _ h => h)
  have HWD := Lib.hid (word_any (w.alloc (.cells #[.int .u64 lo, hv] 56)) lo hv hs k hkw (by omega))
  have HB := Lib.hid (fun (W : World) => bit_any W i b (by omega) hb)
  rw [hwd] at HWD
  rw [← hlo]
  have hE : Hid ((i : Int).tdiv 64 = (k : Int) ∧ (i : Int) / 64 = (k : Int)) := ⟨by rw [Int.tdiv_eq_ediv_of_nonneg (by omega)]; omega, by omega⟩
  have hcs : (T = true ∧ z ≠ 0) ∨ (T = false ∧ z = 0) := by
    cases T with
    | true => rw [if_pos rfl] at hand; exact Or.inl ⟨rfl, by rw [hand]; exact hb0⟩
    | false => rw [if_neg (by decide)] at hand; exact Or.inr ⟨rfl, hand⟩
  clear hk hlo hy hb hwd hand hT hz hkw hw hc h hyl hbl hb0
  obtain ⟨e1, e2⟩ := hE.out
  have hcs : (T = true ∧ z ≠ 0 ∧ ((z : Int) != 0) = true) ∨ (T = false ∧ z = 0 ∧ ((z : Int) != 0) = false) := by
    rcases hcs with ⟨h1, h2⟩ | ⟨h1, h2⟩
    · exact Or.inl ⟨h1, h2, by simp; omega⟩
    · exact Or.inr ⟨h1, h2, by simp [h2]⟩
  rcases hcs with ⟨rfl, hz, hzi⟩ | ⟨rfl, rfl, hzi⟩
  all_goals
    go_enter Tryd.func32, Tryd.ntmps32
    go_wp2_with fail
    refine (possible_yes _ _ (by omega) (by omega)).mono ?_
    rintro e w1 ⟨rfl, rfl⟩
    go_wp2_with fail
    refine HWD.out.mono ?_
    rintro e w1 ⟨rfl, hk1⟩
    have K1 := Lib.hid ((Kept.alloc (fun _ => False) w (.cells #[.int .u64 lo, hv] 56)).then hk1)
    clear hk1
    go_wp2_with fail
    refine (HB.out w1).mono ?_
    rintro e w2 ⟨rfl, rfl⟩
    go_wp2_with fail
    go_ret
    exact ⟨by simp, K1.out⟩
end Go.Proofs.YtccanbjnbmihgaaDoor
