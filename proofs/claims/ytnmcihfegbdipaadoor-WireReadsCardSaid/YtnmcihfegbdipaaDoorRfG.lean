/-
  The reference's reader of layer 2: Get, number, Uint.
-/
import Derived.Test.YtnmcihfegbdipaaDoorNumber
import Derived.Test.YtnmcihfegbdipaaDoorRead2
namespace Go.Proofs.YtnmcihfegbdipaaDoor
open Go.RowKit

set_option maxRecDepth 100000 in
set_option maxHeartbeats 1600000 in
theorem get_at (xs : List Nat) (g off cap : Nat) (w : World) (hcap : xs.length ≤ cap) (hm : cap ≤ maxLen) (hby : Hid (∀ b ∈ xs, b < 256))
    (hc : Hid (∀ i, i < xs.length → w.cell? ⟨g, off + i, none⟩ = some (.int .u8 (xs.getD i 0 : Nat)))) :
    Calls Tryd.prog 110 #[.slice (some ⟨g, off, none⟩) xs.length cap] w fun e w' => e = .returned (.tuple #[.int .u64 (numberS xs).1, .int .i64 (numberS xs).2]) ∧ w = w' := by
  have hl : xs.length ≤ 9223372036854775807 := by unfold maxLen at hm; omega
  clear hm
  go_enter Tryd.func110, Tryd.ntmps110
  go_wp2_with fail
  go_loop [4, 5] (fun v i => ∃ k x : Nat, k ≤ xs.length ∧ i = .int .i64 k ∧ v = .int .u64 x ∧ Hid (x < 18446744073709551616) ∧ Hid (numLoop x k (xs.drop k) = numLoop 0 0 xs) ∧ Hid (0 < k → xs.getD 0 0 ≠ 128)) (fun _ i => xs.length - (intOf i).toNat)
  case atStart => exact ⟨0, 0, Nat.zero_le _, rfl, rfl, by show (0 : Nat) < 18446744073709551616; omega, rfl, fun h => by omega⟩
  case round =>
    obtain ⟨k, x, hk, rfl, rfl, hx, hr, hz⟩ := hrel
    by_cases hlt : k < xs.length
    · have ck := hc.out k hlt
      have hb : Hid (xs.getD k 0 < 256) := hby.out _ (by rw [List.getD_eq_getElem?_getD, List.getElem?_eq_getElem hlt]; exact List.getElem_mem _)
      have hd : Hid (xs.drop k = xs.getD k 0 :: xs.drop (k + 1)) := by
        show _ = _
        rw [List.getD_eq_getElem?_getD, List.getElem?_eq_getElem hlt]; exact List.drop_eq_getElem_cons hlt
      have hk0 : Hid (k = 0 → xs.getD 0 0 = xs.getD k 0) := fun h => by rw [h]
      generalize xs.getD k 0 = b at ck hb hd hk0
      by_cases hA : k = 0 ∧ b = 128
      · obtain ⟨rfl, rfl⟩ := hA
        have HF : Hid (numberS xs = (0, 0)) := by
          show _ = _
          have h0 := hk0.out rfl
          by_cases h1 : 1 < xs.length
          · exact if_pos ⟨h1, h0⟩
          · rw [show numberS xs = numLoop 0 0 xs from if_neg fun h => h1 h.1]
            have hd0 := hd.out
            rw [List.drop_zero, List.drop_eq_nil_of_le (by omega)] at hd0
            rw [hd0, numLoop, if_neg (by decide), if_neg (by decide), numLoop]
        rw [Nat.add_zero] at ck
        clear hk0 hd hr hz
        go_wp2_with fail
        go_ret2
        rw [HF.out]
        exact ⟨rfl, rfl⟩
      · have hne : Hid (0 < k + 1 → xs.getD 0 0 ≠ 128) := fun _ h => by
          by_cases hk1 : k = 0
          · exact hA ⟨hk1, by rw [← hk0.out hk1]; exact h⟩
          · exact hz.out (by omega) h
        have hnum : Hid (numberS xs = numLoop x k (b :: xs.drop (k + 1))) := by
          show _ = _
          rw [show numberS xs = numLoop 0 0 xs from if_neg fun h => hne.out (by omega) h.2, ← hr.out, hd.out]
        have hq : (((k : Int) == 0) = false ∧ k ≠ 0) ∨ (k = 0 ∧ ((b : Int) == 128) = false) := by
          by_cases hk1 : k = 0
          · refine Or.inr ⟨hk1, ?_⟩
            have : b ≠ 128 := fun h => hA ⟨hk1, h⟩
            simp; omega
          · exact Or.inl ⟨by simp; omega, hk1⟩
        clear hA hk0 hz
        obtain ⟨y, hy⟩ : ∃ y : Nat, y = x * 128 + b % 128 := ⟨_, rfl⟩
        obtain ⟨z, hz⟩ : ∃ z : Nat, z = x * 128 := ⟨_, rfl⟩
        obtain ⟨m, hm⟩ : ∃ m : Nat, m = b % 128 := ⟨_, rfl⟩
        by_cases hx0 : 144115188075855871 < x
        · have HF : Hid (numberS xs = (0, 0)) := by
            show _ = _
            rw [hnum.out, numLoop, if_pos (by omega)]
          have hx1 : (144115188075855871 : Int) < (x : Int) := by omega
          clear hy hz hm
          rcases hq with ⟨hq, hk1⟩ | ⟨rfl, hq⟩
          · clear hk1
            go_wp2_with fail
            go_ret2
            rw [HF.out]
            exact ⟨rfl, rfl⟩
          · rw [Nat.add_zero] at ck
            go_wp2_with fail
            go_ret2
            rw [HF.out]
            exact ⟨rfl, rfl⟩
        · have hx1 : ¬ (144115188075855871 : Int) < (x : Int) := by omega
          have hX : Hid (x / 144115188075855872 = 0) := by show _ = _; omega
          have hbb := hb.out
          have hbm : (b : Int) % 128 = (m : Int) := by rw [hm]; omega
          have hbt : (b : Int).tmod 128 = (m : Int) := by rw [Int.tmod_eq_emod_of_nonneg (by omega)]; exact hbm
          have hw1 : IntKind.u64.wrap (128 * (x : Int)) = (z : Int) := by rw [hz]; exact (IntWalk.u64_in _ (by omega)).trans (by omega)
          have hw2 : IntKind.u64.wrap ((z : Int) + (m : Int)) = (y : Int) := by rw [hz, hm, hy]; exact (IntWalk.u64_in _ (by omega)).trans (by omega)
          have hm2 : m < 128 := by omega
          have hm3 : IntKind.u64.wrap (m : Int) = (m : Int) := IntWalk.u64_in _ (by omega)
          have hm4 : IntKind.u8.wrap (m : Int) = (m : Int) := IntWalk.u8_in _ (by omega)
          have HY := Lib.hid hy
          have HYL : Hid (y < 18446744073709551616) := by show _ < _; omega
          clear hy hz hm hbb hm2
          by_cases hb1 : b < 128
          · have hb2 : (b : Int) < 128 := by omega
            have HF : Hid (numberS xs = (y, k + 1)) := by
              show _ = _
              rw [hnum.out, numLoop, if_neg (by rw [hX.out]; simp), if_pos (by omega), HY.out]
            rcases hq with ⟨hq, hk1⟩ | ⟨rfl, hq⟩
            · clear hk1
              go_wp2_with fail
              go_ret2
              rw [HF.out]
              exact ⟨rfl, rfl⟩
            · rw [Nat.add_zero] at ck
              go_wp2_with fail
              go_ret2
              rw [HF.out]
              exact ⟨rfl, rfl⟩
          · have hb2 : ¬ (b : Int) < 128 := by omega
            have HR : Hid (numLoop y (k + 1) (xs.drop (k + 1)) = numLoop 0 0 xs) := by
              show _ = _
              rw [← hr.out, hd.out, numLoop, if_neg (by rw [hX.out]; simp), if_neg (by omega), HY.out]
            rcases hq with ⟨hq, hk1⟩ | ⟨rfl, hq⟩
            · clear hk1
              go_wp2_with fail
              go_roundw
              case rel => exact ⟨k + 1, y, by omega, by go_num, rfl, HYL.out, HR.out, hne.out⟩
              case measure => simp [intOf]; omega
            · rw [Nat.add_zero] at ck
              go_wp2_with fail
              go_roundw
              case rel => exact ⟨0 + 1, y, by omega, by go_num, rfl, HYL.out, HR.out, hne.out⟩
              case measure => simp [intOf]; omega
    · have HF : Hid (numberS xs = (0, 0)) := by
        show _ = _
        have hL : numLoop 0 0 xs = (0, 0) := by rw [← hr.out, List.drop_eq_nil_of_le (by omega), numLoop]
        by_cases h1 : 1 < xs.length ∧ xs.getD 0 0 = 128
        · exact if_pos h1
        · exact (if_neg h1).trans hL
      go_wp2_with fail
      go_ret2
      rw [HF.out]
      exact ⟨rfl, rfl⟩

set_option maxRecDepth 100000 in
set_option maxHeartbeats 800000 in
theorem get_nil (w : World) :
    Calls Tryd.prog 110 #[.slice none 0 0] w fun e w' => e = .returned (.tuple #[.int .u64 0, .int .i64 0]) ∧ w = w' := by
  go_enter Tryd.func110, Tryd.ntmps110
  go_wp2_with fail
  go_loop [4, 5] (fun v i => v = .int .u64 0 ∧ i = .int .i64 0) (fun _ _ => 0)
  case atStart => exact ⟨rfl, rfl⟩
  case round =>
    obtain ⟨rfl, rfl⟩ := hrel
    go_wp2_with fail
    go_ret2
    exact ⟨rfl, rfl⟩

/-- What the reference's 'Get' returns for bytes that a value reads as. -/
theorem get_any (v : Value) (xs : List Nat) (w : World) (h : Reads w v xs) (hby : ∀ b ∈ xs, b < 256) :
    Calls Tryd.prog 110 #[v] w fun e w' => e = .returned (.tuple #[.int .u64 (numberS xs).1, .int .i64 (numberS xs).2]) ∧ w = w' := by
  rcases h with ⟨rfl, rfl⟩ | ⟨g, off, cap, rfl, h1, h2, h3, h4⟩
  · exact get_nil w
  · exact get_at xs g off cap w h1 h2 hby h4
end Go.Proofs.YtnmcihfegbdipaaDoor
