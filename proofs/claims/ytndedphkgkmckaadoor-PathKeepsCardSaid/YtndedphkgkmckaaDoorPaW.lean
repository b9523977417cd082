/-
  Paths: what two have in common: cmp.Compare and slices.Compare of strings, path.Within, path.Compare; the reference's common, bytesLess.
-/
import Derived.Test.YtndedphkgkmckaaDoorPaV
import Derived.Test.YtndedphkgkmckaaDoorStEq
namespace Go.Proofs.YtndedphkgkmckaaDoor
open Go.RowKit
set_option linter.unusedSimpArgs false
set_option linter.unusedVariables false

/-- How many names at the beginning two lists have in common. -/
def comS : List ByteArray → List ByteArray → Nat
  | x :: a, y :: b => if x = y then comS a b + 1 else 0
  | _, _ => 0
theorem comS_le : ∀ a b : List ByteArray, comS a b ≤ a.length ∧ comS a b ≤ b.length
  | [], b => by simp [comS]
  | x :: a, [] => by simp [comS]
  | x :: a, y :: b => by
    have := comS_le a b
    unfold comS
    split <;> simp <;> omega
theorem comS_get : ∀ (a b : List ByteArray) (i : Nat), i < comS a b → a.getD i ⟨#[]⟩ = b.getD i ⟨#[]⟩
  | [], b, i, h => by simp [comS] at h
  | x :: a, [], i, h => by simp [comS] at h
  | x :: a, y :: b, i, h => by
    unfold comS at h
    split at h
    · next e =>
      cases i with
      | zero => simpa using e
      | succ i => have := comS_get a b i (by omega); simpa using this
    · omega
theorem comS_stop : ∀ (a b : List ByteArray), comS a b < a.length → comS a b < b.length → a.getD (comS a b) ⟨#[]⟩ ≠ b.getD (comS a b) ⟨#[]⟩
  | [], b, h, _ => by simp at h
  | x :: a, [], _, h => by simp at h
  | x :: a, y :: b, h1, h2 => by
    by_cases e : x = y
    · have hc : comS (x :: a) (y :: b) = comS a b + 1 := by simp [comS, e]
      rw [hc] at h1 h2 ⊢
      simp at h1 h2
      simpa using comS_stop a b h1 h2
    · have hc : comS (x :: a) (y :: b) = 0 := by simp [comS, e]
      rw [hc]
      simpa using e
/-- It is the only such number. -/
theorem comS_of {a b : List ByteArray} {k : Nat} (h1 : ∀ i, i < k → a.getD i ⟨#[]⟩ = b.getD i ⟨#[]⟩) (ha : k ≤ a.length) (hb : k ≤ b.length) (h2 : k = a.length ∨ k = b.length ∨ a.getD k ⟨#[]⟩ ≠ b.getD k ⟨#[]⟩) : comS a b = k := by
  have hl := comS_le a b
  by_cases hlt : comS a b < k
  · exact absurd (h1 _ hlt) (comS_stop a b (by omega) (by omega))
  · by_cases hgt : k < comS a b
    · rcases h2 with h | h | h
      · omega
      · omega
      · exact absurd (comS_get a b k hgt) h
    · omega

set_option maxRecDepth 100000 in
set_option maxHeartbeats 1600000 in
theorem qcommon_any (v1 v2 : Value) (xs ys : List ByteArray) (w : World) (h1 : Strs w v1 xs) (h2 : Strs w v2 ys) :
    Calls Tryd.prog 64 #[v1, v2] w fun e w' => e = .returned (.int .i64 (comS xs ys : Nat)) ∧ Kept (fun _ => False) w w' := by
  obtain ⟨a1, c1, rfl, hc1, hm1⟩ := h1.form
  obtain ⟨a2, c2, rfl, hc2, hm2⟩ := h2.form
  unfold maxLen at hm1 hm2
  have H1 := Lib.hid h1; have H2 := Lib.hid h2
  obtain ⟨n, hn⟩ : ∃ n, n = xs.length := ⟨_, rfl⟩
  obtain ⟨m, hm⟩ : ∃ m, m = ys.length := ⟨_, rfl⟩
  have hnb : n ≤ 9223372036854775807 := by omega
  have hmb : m ≤ 9223372036854775807 := by omega
  obtain ⟨R, hR⟩ : ∃ R, R = comS xs ys := ⟨_, rfl⟩
  rw [← hn] at H1 ⊢
  rw [← hm] at H2 ⊢
  rw [← hR]
  have HN := Lib.hid hn; have HM := Lib.hid hm; have HR := Lib.hid hR
  clear h1 h2 hn hm hc1 hm1 hc2 hm2 hR
  go_enter Tryd.func64, Tryd.ntmps64
  go_wp2_with fail
  go_loopw [5] (fun iv wr => ∃ k : Nat, k ≤ n ∧ k ≤ m ∧ iv = .int .i64 k ∧ Hid (∀ j, j < k → xs.getD j ⟨#[]⟩ = ys.getD j ⟨#[]⟩) ∧ Hid (Kept (fun _ => False) w wr)) (fun iv _ => n - (intOf iv).toNat)
  case atStart => exact ⟨0, by omega, by omega, rfl, fun j hj => by omega, Kept.refl _ _⟩
  case round =>
    obtain ⟨k, hkn, hkm, rfl, heq, hkw⟩ := hrel
    have l0 : (0 : Int) ≤ (k : Int) := by omega
    by_cases hlt : k < n
    · have l1 : (k : Int) < (n : Int) := by omega
      by_cases hlt2 : k < m
      · have l2 : (k : Int) < (m : Int) := by omega
        obtain ⟨g, off, rfl, _, hcell⟩ := (H1.out.kept hkw.out (fun _ _ h => h)).at (k := k) (by have := HN.out; omega)
        obtain ⟨g', off', rfl, _, hcell'⟩ := (H2.out.kept hkw.out (fun _ _ h => h)).at (k := k) (by have := HM.out; omega)
        obtain ⟨x, hx⟩ : ∃ x, x = xs.getD k ⟨#[]⟩ := ⟨_, rfl⟩
        obtain ⟨y, hy⟩ : ∃ y, y = ys.getD k ⟨#[]⟩ := ⟨_, rfl⟩
        rw [← hx] at hcell
        rw [← hy] at hcell'
        have HX := Lib.hid hx; have HY := Lib.hid hy
        clear hx hy
        by_cases he : x = y
        · have hb : (x.toList == y.toList) = true := by rw [str_eq]; simp [he]
          have heq2 : Hid (∀ j, j < k + 1 → xs.getD j ⟨#[]⟩ = ys.getD j ⟨#[]⟩) := fun j hj => by
            by_cases e : j < k
            · exact heq.out j e
            · obtain rfl : j = k := by omega
              rw [← HX.out, ← HY.out]; exact he
          clear he heq
          go_wp2_with fail
          go_quiet (fail)
          have HD2 : Hid (Kept (fun _ => False) w (wr.drewN nq)) := hkw.out.drewN nq
          generalize wr.drewN nq = wd at *
          go_wp2_with fail
          go_roundw
          case rel => first | exact ⟨k + 1, by omega, by omega, by go_num, heq2, HD2⟩ | ((repeat apply Exists.intro); exact ⟨⟨k + 1, by omega, by omega, by go_num, heq2, HD2⟩, rfl⟩) | ((repeat apply Exists.intro); exact ⟨by omega, by omega, by go_num, heq2, HD2⟩)
          case measure => simp [intOf]; omega
        · have hb : (x.toList == y.toList) = false := by rw [str_eq]; simp [he]
          have hrf : R = k := by
            rw [HR.out]
            exact comS_of heq.out (by have := HN.out; omega) (by have := HM.out; omega) (Or.inr (Or.inr (by rw [← HX.out, ← HY.out]; exact he)))
          clear he heq
          subst hrf
          go_wp2_with fail
          go_quiet (fail)
          have HD2 : Hid (Kept (fun _ => False) w (wr.drewN nq)) := hkw.out.drewN nq
          generalize wr.drewN nq = wd at *
          go_wp2_with fail
          go_ret
          exact ⟨rfl, HD2.out⟩
      · have l2 : ¬ (k : Int) < (m : Int) := by omega
        have hrf : R = k := by
          rw [HR.out]
          exact comS_of heq.out (by have := HN.out; omega) (by have := HM.out; omega) (Or.inr (Or.inl (by have := HM.out; omega)))
        clear heq
        subst hrf
        go_wp2_with fail
        go_quiet (fail)
        have HD2 : Hid (Kept (fun _ => False) w (wr.drewN nq)) := hkw.out.drewN nq
        generalize wr.drewN nq = wd at *
        go_wp2_with fail
        go_ret
        exact ⟨rfl, HD2.out⟩
    · have l1 : ¬ (k : Int) < (n : Int) := by omega
      have hrf : R = k := by
        rw [HR.out]
        exact comS_of heq.out (by have := HN.out; omega) (by have := HM.out; omega) (Or.inl (by have := HN.out; omega))
      clear heq
      subst hrf
      go_wp2_with fail
      go_quiet (fail)
      have HD2 : Hid (Kept (fun _ => False) w (wr.drewN nq)) := hkw.out.drewN nq
      generalize wr.drewN nq = wd at *
      go_wp2_with fail
      go_ret
      exact ⟨rfl, HD2.out⟩
end Go.Proofs.YtndedphkgkmckaaDoor
