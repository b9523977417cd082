/-
  Tokens: the reference's skip.
-/
import Derived.Test.YthkjcgcfbodgbaaDoorTkG
namespace Go.Proofs.YthkjcgcfbodgbaaDoor
open Go.RowKit
set_option linter.unusedSimpArgs false
set_option linter.unusedVariables false

set_option maxRecDepth 100000 in
set_option maxHeartbeats 1600000 in
theorem rskip_any (s : ByteArray) (i : Nat) (w : World) (hi : i ≤ s.size) (hs : s.size ≤ 1000000) :
    Calls Tryd.prog 71 #[.string s, .int .i64 i] w fun e w' => e = .returned (.int .i64 (skipT (strB s) i : Nat)) ∧ w = w' := by
  obtain ⟨T, hT⟩ : ∃ T, T = skipT (strB s) i := ⟨_, rfl⟩
  rw [← hT]
  have HT := Lib.hid hT.symm
  have HAT := Lib.hid (bat_at s)
  have HLN := Lib.hid (strB_len s)
  clear hT
  go_enter Tryd.func71, Tryd.ntmps71
  go_wp2_with fail
  go_loop [1] (fun iv => ∃ k : Nat, k ≤ s.size ∧ iv = .int .i64 k ∧ Hid (skipT (strB s) k = T)) (fun iv => s.size - (intOf iv).toNat)
  case atStart => exact ⟨i, hi, rfl, HT⟩
  case round =>
    obtain ⟨k, hk, rfl, hsk⟩ := hrel
    by_cases hlt : k < s.size
    · have l1 : (k : Int) < (s.size : Int) := by omega
      have l0 : (0 : Int) ≤ (k : Int) := by omega
      have ek := HAT.out k
      obtain ⟨c, hc⟩ : ∃ c, c = bat s k := ⟨_, rfl⟩
      rw [← hc] at ek
      have HC := Lib.hid hc
      clear hc
      have hlk : k < (strB s).length := by rw [HLN.out]; exact hlt
      by_cases h35 : c = 35
      · have HS1 : Hid (k + skipN true ((strB s).drop k) = T) := by
          show _ = _
          have hh : (strB s).getD k 0 = 35 := by rw [strB_at, ← HC.out]; exact h35
          rw [← hsk.out, skipT_hash hlk hh, drop_at hlk, hh, skipN, if_neg (by decide)]
          omega
        have HK10 : Hid (bat s k ≠ 10) := by
          show _ ≠ _
          rw [← HC.out, h35]; decide
        clear HC hsk hlk HT
        subst h35
        go_wp2_with fail
        go_loop [1] (fun iv => ∃ m : Nat, k ≤ m ∧ m ≤ s.size ∧ iv = .int .i64 m ∧ Hid (m + skipN true ((strB s).drop m) = T)) (fun iv => s.size - (intOf iv).toNat)
        case atStart => exact ⟨k, by omega, by omega, rfl, HS1⟩
        case round =>
          obtain ⟨m, hkm, hm, rfl, hsm⟩ := hrel
          by_cases hlm : m < s.size
          · have m1 : (m : Int) < (s.size : Int) := by omega
            have m0 : (0 : Int) ≤ (m : Int) := by omega
            have em := HAT.out m
            obtain ⟨d, hd⟩ : ∃ d, d = bat s m := ⟨_, rfl⟩
            rw [← hd] at em
            have HD := Lib.hid hd
            clear hd
            have hlk2 : m < (strB s).length := by rw [HLN.out]; exact hlm
            by_cases h10 : d = 10
            · have hne : k ≠ m := fun e => by
                have h1 := HK10.out
                have h2 := HD.out
                rw [e] at h1
                exact h1 (by rw [← h2, h10])
              have HS2 : Hid (skipT (strB s) m = T) := by
                show _ = _
                have hh : (strB s).getD m 0 = 10 := by rw [strB_at, ← HD.out]; exact h10
                rw [← hsm.out]
                unfold skipT
                rw [drop_at hlk2, hh, skipN_lf]
              clear HD hsm hlk2
              subst h10
              go_wp2_with fail
              go_round
              case rel => exact ⟨m, by omega, rfl, HS2⟩
              case measure => simp [intOf]; omega
            · have hb : ((d : Int) == 10) = false := beq_eq_false_iff_ne.2 (by omega)
              have HS2 : Hid ((m + 1) + skipN true ((strB s).drop (m + 1)) = T) := by
                show _ = _
                have hh : (strB s).getD m 0 ≠ 10 := by rw [strB_at, ← HD.out]; exact h10
                rw [← hsm.out, drop_at hlk2, skipN, if_neg hh]
                omega
              clear HD hsm hlk2
              go_wp2_with fail
              go_round
              case rel => exact ⟨m + 1, by omega, by omega, by go_num, HS2⟩
              case measure => simp [intOf]; omega
          · obtain rfl : m = s.size := by omega
            have HS2 : Hid (skipT (strB s) s.size = T) := by
              show _ = _
              rw [← hsm.out]
              unfold skipT
              rw [List.drop_of_length_le (by rw [HLN.out]; exact Nat.le_refl _)]
              rfl
            clear hsm
            go_wp2_with fail
            go_round
            case rel => exact ⟨s.size, by omega, rfl, HS2⟩
            case measure => simp [intOf]; omega
      · have hb35 : ((c : Int) == 35) = false := beq_eq_false_iff_ne.2 (by omega)
        have HBL := Lib.hid (fun W => rblank_any c W)
        cases hbl : blankB c with
        | true =>
          rw [hbl] at HBL
          have HS1 : Hid (skipT (strB s) (k + 1) = T) := by
            show _ = _
            rw [← hsk.out]
            exact skipT_blank hlk (by rw [strB_at, ← HC.out]; exact hbl)
          clear HC hsk hlk hbl
          go_wp2_with fail
          refine (HBL.out _).mono ?_
          rintro e w1 ⟨rfl, rfl⟩
          go_wp2_with fail
          go_round
          case rel => exact ⟨k + 1, by omega, by go_num, HS1⟩
          case measure => simp [intOf]; omega
        | false =>
          rw [hbl] at HBL
          have hfin : T = k := by
            rw [← hsk.out]
            exact skipT_stop hlk (by rw [strB_at, ← HC.out]; exact hbl) (by rw [strB_at, ← HC.out]; exact h35)
          clear HC hsk hlk hbl HT
          subst hfin
          go_wp2_with fail
          refine (HBL.out _).mono ?_
          rintro e w1 ⟨rfl, rfl⟩
          go_wp2_with fail
          go_ret
          exact ⟨rfl, rfl⟩
    · obtain rfl : k = s.size := by omega
      have hfin : T = s.size := by
        rw [← hsk.out]
        exact skipT_end _ _ (by rw [HLN.out]; exact Nat.le_refl _)
      clear hsk HT
      subst hfin
      go_wp2_with fail
      go_ret
      exact ⟨rfl, rfl⟩
end Go.Proofs.YthkjcgcfbodgbaaDoor
