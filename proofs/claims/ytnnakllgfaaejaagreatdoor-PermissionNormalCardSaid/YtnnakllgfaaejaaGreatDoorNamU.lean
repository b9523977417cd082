/-
  names.Valid tells which texts are names (P8.1).
-/
import Derived.Test.YtnnakllgfaaejaaGreatDoorNamV
namespace Go.Proofs.YtnnakllgfaaejaaGreatDoor
open Go.RowKit

theorem chrB_zero (b : Nat) : chrB b 0 = letB b := by simp [chrB]
theorem chrB_pos {b j : Nat} (h : j ≠ 0) : chrB b j = (letB b || (digB b || decide (b = 95))) := by simp [chrB, h]

set_option maxRecDepth 100000 in
set_option maxHeartbeats 1600000 in
theorem valid_any (s : ByteArray) (w : World) : Calls Tryz.prog 74 #[.string s] w fun e w' => e = .returned (.bool (validS s)) ∧ Kept (fun _ => False) w w' := by
  obtain ⟨V, hV⟩ : ∃ V, V = validS s := ⟨_, rfl⟩
  rw [← hV]
  have HV := Lib.hid hV
  clear hV
  have hAt := bat_at s
  have HAT := Lib.hid hAt
  clear hAt
  by_cases h0 : s.size = 0
  · have he : s.toList.isEmpty = true := by rw [str_empty]; simp [h0]
    have hv : V = false := by rw [HV.out]; exact validS_bad (Or.inl h0)
    subst hv
    clear h0
    go_enter Tryz.func74, Tryz.ntmps74
    go_wp2_with fail
    go_ret
    exact ⟨rfl, Kept.refl _ _⟩
  have he : s.toList.isEmpty = false := by rw [str_empty]; simp [h0]
  by_cases h12 : 12 < s.size
  · have h12i : (12 : Int) < (s.size : Int) := by omega
    have hv : V = false := by rw [HV.out]; exact validS_bad (Or.inr (Or.inl h12))
    subst hv
    clear h0
    go_enter Tryz.func74, Tryz.ntmps74
    go_wp2_with fail
    go_ret
    exact ⟨rfl, Kept.refl _ _⟩
  have h12i : ¬ (12 : Int) < (s.size : Int) := by omega
  have e0 := HAT.out 0
  have p0 : 0 < s.size := by omega
  have p0i : (0 : Int) < (s.size : Int) := by omega
  obtain ⟨b0, hb0⟩ : ∃ b, b = bat s 0 := ⟨_, rfl⟩
  rw [← hb0] at e0
  have HB0 := Lib.hid hb0
  clear hb0
  by_cases hl2 : letB b0 = false
  · have hv : V = false := by rw [HV.out]; exact validS_bad (Or.inr (Or.inr ⟨0, p0, by rw [chrB_zero, ← HB0.out]; exact hl2⟩))
    subst hv
    clear h0
    go_enter Tryz.func74, Tryz.ntmps74
    go_wp2_with fail
    refine (letter_any b0 _).mono ?_
    rw [hl2]
    rintro e w' ⟨rfl, rfl⟩
    go_wp2_with fail
    go_ret
    exact ⟨rfl, Kept.refl _ _⟩
  · have hl : letB b0 = true := by simpa using hl2
    have HL := Lib.hid hl
    have hsz : s.size ≤ 12 := by omega
    clear h0 h12 hl hl2
    go_enter Tryz.func74, Tryz.ntmps74
    go_wp2_with fail
    refine (letter_any b0 _).mono ?_
    rw [HL.out]
    rintro e w' ⟨rfl, rfl⟩
    go_wp2_with fail
    clear e0 p0i h12i he
    go_loop [20] (fun iv => ∃ k : Nat, k ≤ s.size ∧ iv = .int .i64 k ∧ Hid (∀ j, j < k → chrB (bat s j) j = true)) (fun iv => s.size - (intOf iv).toNat)
    case atStart => exact ⟨0, by omega, rfl, fun j hj => by omega⟩
    case round =>
      obtain ⟨k, hk, rfl, hgo⟩ := hrel
      by_cases hlt : k < s.size
      · have l1 : (k : Int) < (s.size : Int) := by omega
        have l0 : (0 : Int) ≤ (k : Int) := by omega
        have ek := HAT.out k
        obtain ⟨c, hc⟩ : ∃ c, c = bat s k := ⟨_, rfl⟩
        rw [← hc] at ek
        have HC := Lib.hid hc
        clear hc
        have hbad : chrB c k = false → V = false := fun h => by rw [HV.out]; exact validS_bad (Or.inr (Or.inr ⟨k, hlt, by rw [← HC.out]; exact h⟩))
        have hnext : chrB c k = true → Hid (∀ j, j < k + 1 → chrB (bat s j) j = true) := fun h j hj => by
          by_cases e : j < k
          · exact hgo.out j e
          · obtain rfl : j = k := by omega
            rw [← HC.out]; exact h
        have hk0 : k = 0 → letB c = true := fun h => by rw [HC.out, h, ← HB0.out]; exact HL.out
        have HBAD := Lib.hid hbad; have HNX := Lib.hid hnext; have HK0 := Lib.hid hk0
        clear hbad hnext hk0 hgo
        by_cases hl : letB c = true
        · have hn := HNX.out (by simp [chrB, hl])
          go_wp2_with fail
          refine (letter_any c _).mono ?_
          rw [hl]
          rintro e w' ⟨rfl, rfl⟩
          clear hl
          go_wp2_with fail
          go_round
          case rel => exact ⟨k + 1, by omega, by go_num, hn⟩
          case measure => simp [intOf]; omega
        · have hl2 : letB c = false := by simpa using hl
          have hkn : k ≠ 0 := fun h => hl (HK0.out h)
          by_cases hd : digB c = true
          · have hn := HNX.out (by rw [chrB_pos hkn]; simp [hd])
            clear hl hkn
            go_wp2_with fail
            refine (letter_any c _).mono ?_
            rw [hl2]
            rintro e w' ⟨rfl, rfl⟩
            clear hl2
            go_wp2_with fail
            refine (digit_any8 c _).mono ?_
            rw [hd]
            rintro e w' ⟨rfl, rfl⟩
            clear hd
            go_wp2_with fail
            go_round
            case rel => exact ⟨k + 1, by omega, by go_num, hn⟩
            case measure => simp [intOf]; omega
          · have hd2 : digB c = false := by simpa using hd
            by_cases h95 : c = 95
            · have hn := HNX.out (by rw [chrB_pos hkn]; simp [h95])
              subst h95
              clear hl hkn hd
              go_wp2_with fail
              refine (letter_any 95 _).mono ?_
              rw [hl2]
              rintro e w' ⟨rfl, rfl⟩
              clear hl2
              go_wp2_with fail
              refine (digit_any8 95 _).mono ?_
              rw [hd2]
              rintro e w' ⟨rfl, rfl⟩
              clear hd2
              go_wp2_with fail
              go_round
              case rel => exact ⟨k + 1, by omega, by go_num, hn⟩
              case measure => simp [intOf]; omega
            · have hv := HBAD.out (by rw [chrB_pos hkn, hl2, hd2]; simp [h95])
              have h95i : ¬ (c : Int) = 95 := by omega
              subst hv
              clear hl hkn hd
              go_wp2_with fail
              refine (letter_any c _).mono ?_
              rw [hl2]
              rintro e w' ⟨rfl, rfl⟩
              clear hl2
              go_wp2_with fail
              refine (digit_any8 c _).mono ?_
              rw [hd2]
              rintro e w' ⟨rfl, rfl⟩
              clear hd2
              go_wp2_with fail
              go_ret
              exact ⟨rfl, Kept.refl _ _⟩
      · obtain rfl : k = s.size := by omega
        have hv : V = !(memS s kwdL) := by rw [HV.out]; exact validS_good (by omega) hsz hgo.out
        have HV2 := Lib.hid hv
        clear hv hgo
        go_wp2_with fail
        refine (keywords_any w).mono ?_
        rintro e w1 ⟨rfl, hs1, hk1⟩
        have HS1 := Lib.hid hs1; have HK1 := Lib.hid hk1
        clear hs1 hk1
        go_wp2_with fail
        refine (contains_any _ kwdL s w1 HS1.out).mono ?_
        rintro e w2 ⟨rfl, rfl⟩
        generalize memS s kwdL = mm at HV2
        go_wp2_with fail
        go_ret
        exact ⟨by rw [HV2.out]; rfl, HK1.out⟩
end Go.Proofs.YtnnakllgfaaejaaGreatDoor
