/-
  wire.number: what it returns for bytes that a slice holds.
-/
import Derived.Test.YtneappinkfhjmaaDoorCore
import Derived.Test.YtneappinkfhjmaaDoorNum
import Derived.Test.YtneappinkfhjmaaDoorBits
import Derived.Test.YtneappinkfhjmaaDoorRows
import Derived.Outline
import Derived.WalkLawsBesides
import Derived.WalkSpells
import Derived.BigQuiet
import Derived.IntWalk
namespace Go.Proofs.YtneappinkfhjmaaDoor
open Go.RowKit

set_option maxRecDepth 100000 in
set_option maxHeartbeats 800000 in
theorem number_at (xs : List Nat) (g off cap : Nat) (w : World) (hcap : xs.length ≤ cap) (hm : cap ≤ maxLen) (hby : Hid (∀ b ∈ xs, b < 256))
    (hc : Hid (∀ i, i < xs.length → w.cell? ⟨g, off + i, none⟩ = some (.int .u8 (xs.getD i 0 : Nat)))) (hfirst : Hid (¬ (1 < xs.length ∧ xs.getD 0 0 = 128))) :
    Calls Tryd.prog 118 #[.slice (some ⟨g, off, none⟩) xs.length cap] w fun e w' => e = .returned (.tuple #[.int .u64 (numberS xs).1, .int .i64 (numberS xs).2]) ∧ w = w' := by
  have hl : xs.length ≤ 9223372036854775807 := by unfold maxLen at hm; omega
  clear hm
  have H0 : ¬ 1 < xs.length ∨ ∃ b0 : Nat, 1 < xs.length ∧ w.cell? ⟨g, off, none⟩ = some (.int .u8 b0) ∧ ((b0 : Int) == 128) = false := by
    by_cases h1 : 1 < xs.length
    · have c0 := hc.out 0 (by omega)
      rw [Nat.add_zero] at c0
      have hne : ((xs.getD 0 0 : Nat) : Int) ≠ 128 := by have := hfirst.out; omega
      exact Or.inr ⟨_, h1, c0, by simpa using hne⟩
    · exact Or.inl h1
  rcases H0 with h1 | ⟨b0, h1, c0, hne'⟩
  all_goals
    go_enter Tryd.func118, Tryd.ntmps118
    go_wp2_with fail
    go_loop [4, 18] (fun v i => ∃ k x : Nat, k ≤ xs.length ∧ i = .int .i64 k ∧ v = .int .u64 x ∧ Hid (x < 18446744073709551616) ∧ Hid (numLoop x k (xs.drop k) = numLoop 0 0 xs)) (fun _ i => xs.length - (intOf i).toNat)
    case atStart => exact ⟨0, 0, Nat.zero_le _, rfl, rfl, by show (0 : Nat) < 18446744073709551616; omega, rfl⟩
    case round =>
      obtain ⟨k, x, hk, rfl, rfl, hx, hr⟩ := hrel
      by_cases hlt : k < xs.length
      · have ck := hc.out k hlt
        have hb : Hid (xs.getD k 0 < 256) := hby.out _ (by rw [List.getD_eq_getElem?_getD, List.getElem?_eq_getElem hlt]; exact List.getElem_mem _)
        have hd : Hid (xs.drop k = xs.getD k 0 :: xs.drop (k + 1)) := by
          show _ = _
          rw [List.getD_eq_getElem?_getD, List.getElem?_eq_getElem hlt]; exact List.drop_eq_getElem_cons hlt
        generalize xs.getD k 0 = b at ck hb hd
        have hnum : ¬ (1 < xs.length ∧ xs.getD 0 0 = 128) → numberS xs = numLoop 0 0 xs := fun h => if_neg h
        have HN : Hid (numberS xs = numLoop x k (b :: xs.drop (k + 1))) := by show _ = _; rw [hnum hfirst.out, ← hr.out, hd.out]
        clear hnum
        by_cases hx0 : x / 144115188075855872 = 0
        · have HX := Lib.hid hx0
          obtain ⟨y, hy⟩ : ∃ y : Nat, y = x * 128 + b % 128 := ⟨_, rfl⟩
          have hv := group_in x b y hx0 hb.out hy
          have HY := Lib.hid hy; clear hy
          have ht : ((x : Int) / 144115188075855872 != 0) = false := by simp; omega
          clear hx0
          by_cases hb1 : (b : Int) < 128
          · have HF : Hid (numberS xs = (y, k + 1)) := by
              show _ = _
              rw [HN.out, numLoop, if_neg (by rw [HX.out]; simp), if_pos (by omega), HY.out]
            go_wp2_with fail
            go_ret2
            rw [HF.out]
            exact ⟨rfl, rfl⟩
          · go_wp2_with fail
            go_round
            case rel =>
              refine ⟨k + 1, y, by omega, by go_num, rfl, ?_, ?_⟩
              · have := HX.out; have := HY.out
                show y < 18446744073709551616
                omega
              · show _ = _
                rw [← hr.out, hd.out, numLoop, if_neg (by rw [HX.out]; simp), if_neg (by omega), HY.out]
            case measure => simp [intOf]; omega
        · have ht : ((x : Int) / 144115188075855872 != 0) = true := by simp; omega
          have HF : Hid (numberS xs = (0, 0)) := by
            show _ = _
            rw [HN.out, numLoop, if_pos hx0]
          clear hx0
          go_wp2_with fail
          go_ret2
          rw [HF.out]
          exact ⟨rfl, rfl⟩
      · have HF : Hid (numberS xs = (0, 0)) := by
          show _ = _
          rw [show numberS xs = numLoop 0 0 xs from if_neg hfirst.out, ← hr.out, List.drop_eq_nil_of_le (by omega), numLoop]
        go_wp2_with fail
        go_ret2
        rw [HF.out]
        exact ⟨rfl, rfl⟩

set_option maxRecDepth 100000 in
set_option maxHeartbeats 800000 in
theorem number_nil (w : World) :
    Calls Tryd.prog 118 #[.slice none 0 0] w fun e w' => e = .returned (.tuple #[.int .u64 0, .int .i64 0]) ∧ w = w' := by
  go_enter Tryd.func118, Tryd.ntmps118
  go_wp2_with fail
  go_loop [4, 18] (fun v i => v = .int .u64 0 ∧ i = .int .i64 0) (fun _ _ => 0)
  case atStart => exact ⟨rfl, rfl⟩
  case round =>
    obtain ⟨rfl, rfl⟩ := hrel
    go_wp2_with fail
    go_ret2
    exact ⟨rfl, rfl⟩

set_option maxRecDepth 100000 in
set_option maxHeartbeats 800000 in
theorem number_128 (len g off cap : Nat) (w : World) (h1 : 1 < len) (hl : len ≤ 9223372036854775807) (hc : w.cell? ⟨g, off, none⟩ = some (.int .u8 128)) :
    Calls Tryd.prog 118 #[.slice (some ⟨g, off, none⟩) len cap] w fun e w' => e = .returned (.tuple #[.int .u64 0, .int .i64 0]) ∧ w = w' := by
  go_enter Tryd.func118, Tryd.ntmps118
  go_wp2_with fail
  go_ret2
  exact ⟨rfl, rfl⟩

/-- What 'number' returns for bytes that a value reads as. -/
theorem number_any (v : Value) (xs : List Nat) (w : World) (h : Reads w v xs) (hby : ∀ b ∈ xs, b < 256) :
    Calls Tryd.prog 118 #[v] w fun e w' => e = .returned (.tuple #[.int .u64 (numberS xs).1, .int .i64 (numberS xs).2]) ∧ w = w' := by
  rcases h with ⟨rfl, rfl⟩ | ⟨g, off, cap, rfl, h1, h2, h3, h4⟩
  · exact number_nil w
  · by_cases hf : 1 < xs.length ∧ xs.getD 0 0 = 128
    · have e : numberS xs = (0, 0) := if_pos hf
      rw [e]
      have c0 := h4 0 (by omega)
      rw [hf.2, Nat.add_zero] at c0
      exact number_128 _ g off cap w hf.1 (by unfold maxLen at h2; omega) c0
    · exact number_at xs g off cap w h1 h2 hby h4 hf

end Go.Proofs.YtneappinkfhjmaaDoor
