/-
  Tokens: run (how many bytes at the beginning are of one sort).
-/
import Derived.Test.YthkjcgcfbodgbaaDoorTkA
namespace Go.Proofs.YthkjcgcfbodgbaaDoor
open Go.RowKit
set_option linter.unusedSimpArgs false
set_option linter.unusedVariables false

theorem takeWhileN_at {f : Nat → Bool} : ∀ (l : List Nat) (k : Nat), k ≤ l.length → (∀ j, j < k → f (l.getD j 0) = true) → (k < l.length → f (l.getD k 0) = false) → (l.takeWhile f).length = k
  | [], k, hk, _, _ => by simp at hk; simp [hk]
  | x :: t, 0, _, _, h => by
    have := h (by simp)
    simp only [List.getD_cons_zero] at this
    simp [List.takeWhile, this]
  | x :: t, k + 1, hk, h1, h2 => by
    have h0 := h1 0 (by omega)
    simp only [List.getD_cons_zero] at h0
    have ih := takeWhileN_at t k (by simpa using hk) (fun j hj => by have := h1 (j + 1) (by omega); simpa using this) (fun hk' => by have := h2 (by simpa using hk'); simpa using this)
    simp [List.takeWhile, h0, ih]

set_option maxRecDepth 100000 in
set_option maxHeartbeats 1600000 in
theorem trun_word (s : ByteArray) (w : World) (hs : s.size ≤ 1000000) :
    Calls Tryd.prog 78 #[.string s, .func (.func 79) #[] #[]] w fun e w' => e = .returned (.int .i64 (((strB s).takeWhile inWordB).length : Nat)) ∧ w = w' := by
  have HAT := Lib.hid (bat_at s)
  have HLN := Lib.hid (strB_len s)
  have HF := Lib.hid (fun c => tinWord_any c w)
  obtain ⟨T, hT⟩ : ∃ T, T = ((strB s).takeWhile inWordB).length := ⟨_, rfl⟩
  rw [← hT]
  have HT := Lib.hid hT
  clear hT
  have eg : ∀ args w, (callFunc 79 args).run Tryd.prog w = .ok (.enter 79 args) w := enters_of Tryd.func79 (by kernel_rfl) rfl
  go_enter Tryd.func78, Tryd.ntmps78
  go_wp2_with fail
  go_loop [5] (fun iv => ∃ k : Nat, k ≤ s.size ∧ iv = .int .i64 k ∧ Hid (∀ j, j < k → inWordB ((strB s).getD j 0) = true)) (fun iv => s.size - (intOf iv).toNat)
  case atStart => exact ⟨0, by omega, rfl, fun j hj => by omega⟩
  case round =>
    obtain ⟨k, hk, rfl, hall⟩ := hrel
    by_cases hlt : k < s.size
    · have l1 : (k : Int) < (s.size : Int) := by omega
      have l0 : (0 : Int) ≤ (k : Int) := by omega
      have ek := HAT.out k
      obtain ⟨c, hc⟩ : ∃ c, c = bat s k := ⟨_, rfl⟩
      rw [← hc] at ek
      have HC := Lib.hid hc
      clear hc
      have hfc := HF.out c
      cases hb : inWordB c with
      | true =>
        rw [hb] at hfc
        have HFC := Lib.hid hfc
        have HALL : Hid (∀ j, j < k + 1 → inWordB ((strB s).getD j 0) = true) := fun j hj => by
          by_cases e : j < k
          · exact hall.out j e
          · obtain rfl : j = k := by omega
            rw [strB_at, ← HC.out]; exact hb
        clear hfc hb HC hall
        go_wp2_with (go_at_call 79; refine HFC.out.mono ?_; rintro e w1 ⟨rfl, rfl⟩)
        go_round
        case rel => exact ⟨k + 1, by omega, by go_num, HALL⟩
        case measure => simp [intOf]; omega
      | false =>
        rw [hb] at hfc
        have HFC := Lib.hid hfc
        have hfin : T = k := by
          rw [HT.out]
          exact takeWhileN_at _ k (by rw [HLN.out]; exact hk) hall.out (fun _ => by rw [strB_at, ← HC.out]; exact hb)
        clear hfc hb HC hall HT
        subst hfin
        go_wp2_with (go_at_call 79; refine HFC.out.mono ?_; rintro e w1 ⟨rfl, rfl⟩)
        go_ret
        exact ⟨rfl, rfl⟩
    · obtain rfl : k = s.size := by omega
      have hfin : T = s.size := by
        rw [HT.out]
        exact takeWhileN_at _ _ (by rw [HLN.out]; exact Nat.le_refl _) hall.out (fun h => by rw [HLN.out] at h; omega)
      clear hall HT
      subst hfin
      go_wp2_with fail
      go_ret
      exact ⟨rfl, rfl⟩

set_option maxRecDepth 100000 in
set_option maxHeartbeats 1600000 in
theorem trun_digit (s : ByteArray) (w : World) (hs : s.size ≤ 1000000) :
    Calls Tryd.prog 78 #[.string s, .func (.func 80) #[] #[]] w fun e w' => e = .returned (.int .i64 (((strB s).takeWhile digB).length : Nat)) ∧ w = w' := by
  have HAT := Lib.hid (bat_at s)
  have HLN := Lib.hid (strB_len s)
  have HF := Lib.hid (fun c => tdigit_any c w)
  obtain ⟨T, hT⟩ : ∃ T, T = ((strB s).takeWhile digB).length := ⟨_, rfl⟩
  rw [← hT]
  have HT := Lib.hid hT
  clear hT
  have eg : ∀ args w, (callFunc 80 args).run Tryd.prog w = .ok (.enter 80 args) w := enters_of Tryd.func80 (by kernel_rfl) rfl
  go_enter Tryd.func78, Tryd.ntmps78
  go_wp2_with fail
  go_loop [5] (fun iv => ∃ k : Nat, k ≤ s.size ∧ iv = .int .i64 k ∧ Hid (∀ j, j < k → digB ((strB s).getD j 0) = true)) (fun iv => s.size - (intOf iv).toNat)
  case atStart => exact ⟨0, by omega, rfl, fun j hj => by omega⟩
  case round =>
    obtain ⟨k, hk, rfl, hall⟩ := hrel
    by_cases hlt : k < s.size
    · have l1 : (k : Int) < (s.size : Int) := by omega
      have l0 : (0 : Int) ≤ (k : Int) := by omega
      have ek := HAT.out k
      obtain ⟨c, hc⟩ : ∃ c, c = bat s k := ⟨_, rfl⟩
      rw [← hc] at ek
      have HC := Lib.hid hc
      clear hc
      have hfc := HF.out c
      cases hb : digB c with
      | true =>
        rw [hb] at hfc
        have HFC := Lib.hid hfc
        have HALL : Hid (∀ j, j < k + 1 → digB ((strB s).getD j 0) = true) := fun j hj => by
          by_cases e : j < k
          · exact hall.out j e
          · obtain rfl : j = k := by omega
            rw [strB_at, ← HC.out]; exact hb
        clear hfc hb HC hall
        go_wp2_with (go_at_call 80; refine HFC.out.mono ?_; rintro e w1 ⟨rfl, rfl⟩)
        go_round
        case rel => exact ⟨k + 1, by omega, by go_num, HALL⟩
        case measure => simp [intOf]; omega
      | false =>
        rw [hb] at hfc
        have HFC := Lib.hid hfc
        have hfin : T = k := by
          rw [HT.out]
          exact takeWhileN_at _ k (by rw [HLN.out]; exact hk) hall.out (fun _ => by rw [strB_at, ← HC.out]; exact hb)
        clear hfc hb HC hall HT
        subst hfin
        go_wp2_with (go_at_call 80; refine HFC.out.mono ?_; rintro e w1 ⟨rfl, rfl⟩)
        go_ret
        exact ⟨rfl, rfl⟩
    · obtain rfl : k = s.size := by omega
      have hfin : T = s.size := by
        rw [HT.out]
        exact takeWhileN_at _ _ (by rw [HLN.out]; exact Nat.le_refl _) hall.out (fun h => by rw [HLN.out] at h; omega)
      clear hall HT
      subst hfin
      go_wp2_with fail
      go_ret
      exact ⟨rfl, rfl⟩
end Go.Proofs.YthkjcgcfbodgbaaDoor
