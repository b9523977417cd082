/-
  Tokens: the reference's number.
-/
import Derived.Test.YthkjcgcfbodgbaaDoorTkH
namespace Go.Proofs.YthkjcgcfbodgbaaDoor
open Go.RowKit
set_option linter.unusedSimpArgs false
set_option linter.unusedVariables false

/-- Where the number that begins at a place ends; 0: there is none. -/
def numR (s : ByteArray) (i k : Nat) : Nat := if 6 < k - i ∨ (1 < k - i ∧ bat s i = 48) then 0 else if k < s.size ∧ (letB (bat s k) = true ∨ bat s k = 95) then 0 else k
theorem take_num {s : ByteArray} {i k : Nat} (hik : i ≤ k) (hk : k ≤ s.size) (h1 : ∀ j, i ≤ j → j < k → digB (bat s j) = true) (h2 : k < s.size → digB (bat s k) = false) : i + (((strB s).drop i).takeWhile digB).length = k := by
  have hd : ∀ j, ((strB s).drop i).getD j 0 = bat s (i + j) := fun j => by
    rw [← strB_at]
    simp [List.getD, List.getElem?_drop]
  rw [takeWhileN_at ((strB s).drop i) (k - i) (by rw [List.length_drop, strB_len]; omega) (fun j hj => by rw [hd]; exact h1 _ (by omega) (by omega)) (fun hj => by
    rw [List.length_drop, strB_len] at hj
    rw [hd, show i + (k - i) = k by omega]
    exact h2 (by omega))]
  omega

set_option maxRecDepth 100000 in
set_option maxHeartbeats 3200000 in
theorem rnumber_any (s : ByteArray) (i : Nat) (w : World) (hi : i < s.size) (hs : s.size ≤ 1000000) :
    Calls Tryd.prog 74 #[.string s, .int .i64 i] w fun e w' => e = .returned (.int .i64 (numR s i (i + (((strB s).drop i).takeWhile digB).length) : Nat)) ∧ w = w' := by
  have HAT := Lib.hid (bat_at s)
  have li1 : (i : Int) < (s.size : Int) := by omega
  have li0 : (0 : Int) ≤ (i : Int) := by omega
  obtain ⟨E, hE⟩ : ∃ E, E = i + (((strB s).drop i).takeWhile digB).length := ⟨_, rfl⟩
  rw [← hE]
  obtain ⟨R, hR⟩ : ∃ R, R = numR s i E := ⟨_, rfl⟩
  rw [← hR]
  have HE := Lib.hid hE; have HR := Lib.hid hR
  clear hE hR
  have ei := HAT.out i
  obtain ⟨b0, hb0⟩ : ∃ b, b = bat s i := ⟨_, rfl⟩
  rw [← hb0] at ei
  have HB := Lib.hid hb0
  clear hb0
  go_enter Tryd.func74, Tryd.ntmps74
  go_wp2_with fail
  go_loop [5] (fun iv => ∃ k : Nat, i ≤ k ∧ k ≤ s.size ∧ iv = .int .i64 k ∧ Hid (∀ j, i ≤ j → j < k → digB (bat s j) = true)) (fun iv => s.size - (intOf iv).toNat)
  case atStart => exact ⟨i, by omega, by omega, rfl, fun j h1 h2 => by omega⟩
  case round =>
    obtain ⟨k, hik, hk, rfl, hall⟩ := hrel
    have l0 : (0 : Int) ≤ (k : Int) := by omega
    have lik : (i : Int) ≤ (k : Int) := by omega
    by_cases hlt : k < s.size
    · have l1 : (k : Int) < (s.size : Int) := by omega
      have ek := HAT.out k
      obtain ⟨c, hc⟩ : ∃ c, c = bat s k := ⟨_, rfl⟩
      rw [← hc] at ek
      have HC := Lib.hid hc
      clear hc
      have HDI := Lib.hid (fun W => rdigit_any c W)
      cases hd : digB c with
      | true =>
        rw [hd] at HDI
        have HALL : Hid (∀ j, i ≤ j → j < k + 1 → digB (bat s j) = true) := fun j h1 h2 => by
          by_cases e : j < k
          · exact hall.out j h1 e
          · obtain rfl : j = k := by omega
            rw [← HC.out]; exact hd
        clear hd HC hall
        go_wp2_with fail
        refine (HDI.out _).mono ?_
        rintro e w1 ⟨rfl, rfl⟩
        go_wp2_with fail
        go_round
        case rel => exact ⟨k + 1, by omega, by omega, by go_num, HALL⟩
        case measure => simp [intOf]; omega
      | false =>
        rw [hd] at HDI
        have hEk : E = k := by rw [HE.out]; exact take_num hik hk hall.out (fun _ => by rw [← HC.out]; exact hd)
        have hRR := HR.out
        unfold numR at hRR
        rw [hEk, ← HB.out, ← HC.out] at hRR
        have HLE := Lib.hid (fun W => rletter_any c W)
        clear hd hall HE HR hEk HB HC
        by_cases h6 : 6 < k - i
        · have h6i : (6 : Int) < (k : Int) - (i : Int) := by omega
          have hr : R = 0 := by rw [hRR]; rw [if_pos (Or.inl h6)]
          clear hRR
          subst hr
          go_wp2_with fail
          refine (HDI.out _).mono ?_
          rintro e w1 ⟨rfl, rfl⟩
          go_wp2_with fail
          go_ret
          exact ⟨rfl, rfl⟩
        · have h6i : ¬ (6 : Int) < (k : Int) - (i : Int) := by omega
          by_cases h1 : 1 < k - i
          · have h1i : (1 : Int) < (k : Int) - (i : Int) := by omega
            by_cases h48 : b0 = 48
            · have hr : R = 0 := by rw [hRR]; rw [if_pos (Or.inr ⟨h1, h48⟩)]
              clear hRR
              subst hr
              subst h48
              go_wp2_with fail
              refine (HDI.out _).mono ?_
              rintro e w1 ⟨rfl, rfl⟩
              go_wp2_with fail
              go_ret
              exact ⟨rfl, rfl⟩
            · have hb48 : ((b0 : Int) == 48) = false := beq_eq_false_iff_ne.2 (by omega)
              rw [if_neg (by rintro (h | ⟨_, h⟩); exact h6 h; exact h48 h)] at hRR
              cases hl : letB c with
              | true =>
                rw [hl] at HLE
                have hr : R = 0 := by rw [hRR, if_pos ⟨hlt, Or.inl hl⟩]
                clear hRR hl
                subst hr
                go_wp2_with fail
                refine (HDI.out _).mono ?_
                rintro e w1 ⟨rfl, rfl⟩
                go_wp2_with fail
                refine (HLE.out _).mono ?_
                rintro e w1 ⟨rfl, rfl⟩
                go_wp2_with fail
                go_ret
                exact ⟨rfl, rfl⟩
              | false =>
                rw [hl] at HLE
                by_cases h95 : c = 95
                · have hr : R = 0 := by rw [hRR, if_pos ⟨hlt, Or.inr h95⟩]
                  clear hRR hl
                  subst hr
                  subst h95
                  go_wp2_with fail
                  refine (HDI.out _).mono ?_
                  rintro e w1 ⟨rfl, rfl⟩
                  go_wp2_with fail
                  refine (HLE.out _).mono ?_
                  rintro e w1 ⟨rfl, rfl⟩
                  go_wp2_with fail
                  go_ret
                  exact ⟨rfl, rfl⟩
                · have hb95 : ((c : Int) == 95) = false := beq_eq_false_iff_ne.2 (by omega)
                  have hr : R = k := by rw [hRR, if_neg (by rintro ⟨_, h | h⟩; rw [hl] at h; cases h; exact h95 h)]
                  clear hRR hl
                  subst hr
                  go_wp2_with fail
                  refine (HDI.out _).mono ?_
                  rintro e w1 ⟨rfl, rfl⟩
                  go_wp2_with fail
                  refine (HLE.out _).mono ?_
                  rintro e w1 ⟨rfl, rfl⟩
                  go_wp2_with fail
                  go_ret
                  exact ⟨rfl, rfl⟩
          · have h1i : ¬ (1 : Int) < (k : Int) - (i : Int) := by omega
            rw [if_neg (by rintro (h | ⟨h, _⟩); exact h6 h; exact h1 h)] at hRR
            cases hl : letB c with
            | true =>
              rw [hl] at HLE
              have hr : R = 0 := by rw [hRR, if_pos ⟨hlt, Or.inl hl⟩]
              clear hRR hl
              subst hr
              go_wp2_with fail
              refine (HDI.out _).mono ?_
              rintro e w1 ⟨rfl, rfl⟩
              go_wp2_with fail
              refine (HLE.out _).mono ?_
              rintro e w1 ⟨rfl, rfl⟩
              go_wp2_with fail
              go_ret
              exact ⟨rfl, rfl⟩
            | false =>
              rw [hl] at HLE
              by_cases h95 : c = 95
              · have hr : R = 0 := by rw [hRR, if_pos ⟨hlt, Or.inr h95⟩]
                clear hRR hl
                subst hr
                subst h95
                go_wp2_with fail
                refine (HDI.out _).mono ?_
                rintro e w1 ⟨rfl, rfl⟩
                go_wp2_with fail
                refine (HLE.out _).mono ?_
                rintro e w1 ⟨rfl, rfl⟩
                go_wp2_with fail
                go_ret
                exact ⟨rfl, rfl⟩
              · have hb95 : ((c : Int) == 95) = false := beq_eq_false_iff_ne.2 (by omega)
                have hr : R = k := by rw [hRR, if_neg (by rintro ⟨_, h | h⟩; rw [hl] at h; cases h; exact h95 h)]
                clear hRR hl
                subst hr
                go_wp2_with fail
                refine (HDI.out _).mono ?_
                rintro e w1 ⟨rfl, rfl⟩
                go_wp2_with fail
                refine (HLE.out _).mono ?_
                rintro e w1 ⟨rfl, rfl⟩
                go_wp2_with fail
                go_ret
                exact ⟨rfl, rfl⟩
    · obtain rfl : k = s.size := by omega
      have hEk : E = s.size := by rw [HE.out]; exact take_num hik hk hall.out (fun h => by omega)
      have hRR := HR.out
      unfold numR at hRR
      rw [hEk, ← HB.out] at hRR
      clear hall HE HR hEk HB
      by_cases h6 : 6 < s.size - i
      · have h6i : (6 : Int) < (s.size : Int) - (i : Int) := by omega
        have hr : R = 0 := by rw [hRR]; rw [if_pos (Or.inl h6)]
        clear hRR
        subst hr
        go_wp2_with fail
        go_ret
        exact ⟨rfl, rfl⟩
      · have h6i : ¬ (6 : Int) < (s.size : Int) - (i : Int) := by omega
        by_cases h1 : 1 < s.size - i
        · have h1i : (1 : Int) < (s.size : Int) - (i : Int) := by omega
          by_cases h48 : b0 = 48
          · have hr : R = 0 := by rw [hRR]; rw [if_pos (Or.inr ⟨h1, h48⟩)]
            clear hRR
            subst hr
            subst h48
            go_wp2_with fail
            go_ret
            exact ⟨rfl, rfl⟩
          · have hb48 : ((b0 : Int) == 48) = false := beq_eq_false_iff_ne.2 (by omega)
            rw [if_neg (by rintro (h | ⟨_, h⟩); exact h6 h; exact h48 h)] at hRR
            have hr : R = s.size := by rw [hRR, if_neg (by rintro ⟨h, _⟩; omega)]
            clear hRR
            subst hr
            go_wp2_with fail
            go_ret
            exact ⟨rfl, rfl⟩
        · have h1i : ¬ (1 : Int) < (s.size : Int) - (i : Int) := by omega
          rw [if_neg (by rintro (h | ⟨h, _⟩); exact h6 h; exact h1 h)] at hRR
          have hr : R = s.size := by rw [hRR, if_neg (by rintro ⟨h, _⟩; omega)]
          clear hRR
          subst hr
          go_wp2_with fail
          go_ret
          exact ⟨rfl, rfl⟩
end Go.Proofs.YthkjcgcfbodgbaaDoor
