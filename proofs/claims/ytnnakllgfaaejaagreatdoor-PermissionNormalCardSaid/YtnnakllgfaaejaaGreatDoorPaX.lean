/-
  Paths: Within and Common of both.
-/
import Derived.Test.YtnnakllgfaaejaaGreatDoorPaW
namespace Go.Proofs.YtnnakllgfaaejaaGreatDoor
open Go.RowKit
set_option linter.unusedSimpArgs false
set_option linter.unusedVariables false

/-- Whether p lies within q. -/
def withinS (p q : ByteArray) : Bool := match namesS p, namesS q with
  | some a, some b => decide (comS a b = b.length)
  | _, _ => false

theorem comS_whole : ∀ a b : List ByteArray, comS a b = b.length ↔ b.length ≤ a.length ∧ b = a.take b.length
  | [], [] => by simp [comS]
  | [], y :: b => by simp [comS]
  | x :: a, [] => by simp [comS]
  | x :: a, y :: b => by
    have ih := comS_whole a b
    by_cases e : x = y
    · have hc : comS (x :: a) (y :: b) = comS a b + 1 := by simp [comS, e]
      rw [hc, List.length_cons, List.length_cons, List.take_succ_cons, Nat.add_right_cancel_iff, ih, Nat.add_le_add_iff_right, e]
      simp
    · have hc : comS (x :: a) (y :: b) = 0 := by simp [comS, e]
      rw [hc]
      simp [Ne.symm e]

theorem Strs.take {w : World} {a : Option Addr} {n c : Nat} {xs : List ByteArray} (h : Strs w (.slice a n c) xs) (k : Nat) (hk : k ≤ xs.length) : Strs w (.slice a k c) (xs.take k) := by
  rcases h with ⟨h, rfl⟩ | ⟨g, off, cap, h, h1, h2, h3, h4⟩
  · obtain rfl : k = 0 := by simpa using hk
    cases h
    exact Or.inl ⟨rfl, rfl⟩
  · cases h
    refine Or.inr ⟨g, off, c, by rw [List.length_take, Nat.min_eq_left hk], by rw [List.length_take]; omega, h2, h3, fun i hi => ?_⟩
    rw [List.length_take] at hi
    rw [h4 i (by omega), List.getD_eq_getElem?_getD, List.getD_eq_getElem?_getD, List.getElem?_take, if_pos (by omega)]

/-- A row of strings, by what its address is. -/
theorem Strs.parts {w : World} {v : Value} {xs : List ByteArray} (h : Strs w v xs) : (v = .slice none 0 0 ∧ xs = []) ∨ ∃ g off c, v = .slice (some ⟨g, off, none⟩) xs.length c ∧ xs.length ≤ c ∧ c ≤ maxLen := by
  rcases h with h | ⟨g, off, cap, h, h1, h2, _⟩
  · exact Or.inl h
  · exact Or.inr ⟨g, off, cap, h, h1, h2⟩

set_option maxRecDepth 100000 in
set_option maxHeartbeats 3200000 in
theorem within_any (p q : ByteArray) (hp : p.size ≤ 1000000) (hq : q.size ≤ 1000000) (w : World) :
    Calls Tryz.prog 50 #[.string p, .string q] w fun e w' => e = .returned (.bool (withinS p q)) ∧ Kept (fun _ => False) w w' := by
  have HCP := Lib.hid (split_any p hp)
  have HCQ := Lib.hid (split_any q hq)
  obtain ⟨V, hV⟩ : ∃ V, V = withinS p q := ⟨_, rfl⟩
  rw [← hV]
  unfold withinS at hV
  cases hP : namesS p with
  | none =>
    rw [hP] at hV HCP
    simp only at hV
    subst hV
    generalize (namesS q).isSome = bq at HCQ
    clear hP
    go_enter Tryz.func50, Tryz.ntmps50
    go_wp2_with fail
    refine (HCP.out _).mono ?_
    rintro e w1 ⟨v1, rfl, hr1⟩
    have HK1 := Lib.hid hr1.kept
    clear hr1
    go_wp2_with fail
    refine (HCQ.out _).mono ?_
    rintro e w2 ⟨v2, rfl, hr2⟩
    have HK2 := Lib.hid hr2.kept
    clear hr2
    go_wp2_with fail
    go_ret
    exact ⟨rfl, HK1.out.then HK2.out⟩
  | some xs =>
    cases hQ : namesS q with
    | none =>
      rw [hP, hQ] at hV
      rw [hP] at HCP
      rw [hQ] at HCQ
      simp only at hV
      subst hV
      clear hP hQ
      go_enter Tryz.func50, Tryz.ntmps50
      go_wp2_with fail
      refine (HCP.out _).mono ?_
      rintro e w1 ⟨v1, rfl, hr1⟩
      have HK1 := Lib.hid hr1.kept
      clear hr1
      go_wp2_with fail
      refine (HCQ.out _).mono ?_
      rintro e w2 ⟨v2, rfl, hr2⟩
      have HK2 := Lib.hid hr2.kept
      clear hr2
      go_wp2_with fail
      go_ret
      exact ⟨rfl, HK1.out.then HK2.out⟩
    | some ys =>
      rw [hP, hQ] at hV
      simp only at hV
      rw [hP] at HCP
      rw [hQ] at HCQ
      have HP := Lib.hid hP; have HQ := Lib.hid hQ
      have hcw := comS_whole xs ys
      rw [show decide (comS xs ys = ys.length) = (decide (ys.length ≤ xs.length) && decide (ys = xs.take ys.length)) by rw [Bool.eq_iff_iff]; simp [hcw]] at hV
      clear hP hQ hcw
      have HV := Lib.hid hV
      clear hV
      obtain ⟨n, hn⟩ : ∃ n, n = xs.length := ⟨_, rfl⟩
      obtain ⟨m, hm⟩ : ∃ m, m = ys.length := ⟨_, rfl⟩
      have HN := Lib.hid hn; have HM := Lib.hid hm
      go_enter Tryz.func50, Tryz.ntmps50
      go_wp2_with fail
      refine (HCP.out _).mono ?_
      rintro e w1 ⟨v1, rfl, hr1⟩
      have hrow1 : Strs w1 v1 xs := by have := hr1.row; rw [HP.out] at this; exact this
      have HK1 := Lib.hid hr1.kept
      have HR1 := Lib.hid hrow1
      clear hr1 hrow1
      go_wp2_with fail
      refine (HCQ.out _).mono ?_
      rintro e w2 ⟨v2, rfl, hr2⟩
      have hrow2 : Strs w2 v2 ys := by have := hr2.row; rw [HQ.out] at this; exact this
      have HK2 := Lib.hid hr2.kept
      have hrow1 : Strs w2 v1 xs := HR1.out.kept HK2.out (fun _ _ h => h)
      clear hr2
      obtain ⟨a2, c2, rfl, hc2, hm2⟩ := hrow2.form
      rw [← hm] at hrow2 ⊢
      have HR2 := Lib.hid hrow2
      have HR1' := Lib.hid hrow1
      have hpar := hrow1.parts
      clear hrow1 hrow2 hc2 hm2
      by_cases hle : m ≤ n
      · have l1 : (m : Int) ≤ (n : Int) := by omega
        have htk : Hid (Strs w2 v1 xs) := HR1'
        have hv : V = decide (ys = xs.take m) := by rw [HV.out, ← hm, ← hn]; simp [hle]
        have HV2 := Lib.hid hv
        rcases hpar with ⟨rfl, hx0⟩ | ⟨g, off, c1, rfl, hc1, hcm1⟩
        · have hm0 : m = 0 := by rw [hn, hx0] at hle; simpa using hle
          have hn0 : n = 0 := by rw [hn, hx0]; rfl
          have hE := sequal_any (.slice a2 m c2) (.slice none 0 0) ys (xs.take m) w2 HR2.out (Or.inl ⟨rfl, by rw [hx0]; simp⟩)
          rw [← hv, hm0] at hE
          have HE := Lib.hid hE
          clear hE hv hx0 hn hle l1 hn0
          subst hm0
          clear hm
          go_wp2_with fail
          refine HE.out.mono ?_
          rintro e w3 ⟨rfl, nd, rfl⟩
          go_wp2_with fail
          go_ret
          exact ⟨by first | rfl | simp, (HK1.out.then HK2.out).drewN nd⟩
        · have hE := sequal_any (.slice a2 m c2) (.slice (some ⟨g, off, none⟩) m c1) ys (xs.take m) w2 HR2.out (Strs.take (n := xs.length) HR1'.out m (by omega))
          rw [← hv] at hE
          have HE := Lib.hid hE
          have l0 : (0 : Int) ≤ (m : Int) := by omega
          have l2 : (m : Int) ≤ (c1 : Int) := by omega
          have l3 : m ≤ c1 := by omega
          unfold maxLen at hcm1
          rw [← hn]
          clear hE hv hle hc1 hn hm
          go_wp2_with fail
          refine HE.out.mono ?_
          rintro e w3 ⟨rfl, nd, rfl⟩
          go_wp2_with fail
          go_ret
          exact ⟨by first | rfl | simp, (HK1.out.then HK2.out).drewN nd⟩
      · have l1 : ¬ (m : Int) ≤ (n : Int) := by omega
        have hv : V = false := by rw [HV.out, ← hm, ← hn]; simp [hle]
        subst hv
        obtain ⟨a1, c1, rfl, _, _⟩ := HR1'.out.form
        rw [← hn]
        clear hpar hn hm hle
        go_wp2_with fail
        go_ret
        exact ⟨rfl, HK1.out.then HK2.out⟩

end Go.Proofs.YtnnakllgfaaejaaGreatDoor
