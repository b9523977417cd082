/-
  slices.Equal of strings. (As in NamEm: never beside it.)
-/
import Derived.Test.YtnnakllgfaaejaaGreatDoorNamV
import Derived.BigQuiet
namespace Go.Proofs.YtnnakllgfaaejaaGreatDoor
open Go.RowKit

theorem drewN_add8 (w : World) (j m : Nat) : (w.drewN j).drewN m = w.drewN (j + m) := by simp [World.drewN, Nat.add_assoc]

set_option maxRecDepth 100000 in
set_option maxHeartbeats 1600000 in
theorem sequal_any (v1 v2 : Value) (xs ys : List ByteArray) (w : World) (h1 : Strs w v1 xs) (h2 : Strs w v2 ys) :
    Calls Tryz.prog 73 #[v1, v2] w fun e w' => e = .returned (.bool (decide (xs = ys))) ∧ ∃ m, w' = w.drewN m := by
  obtain ⟨R, hR⟩ : ∃ R, R = decide (xs = ys) := ⟨_, rfl⟩
  rw [← hR]
  obtain ⟨a1, c1, rfl, hc1, hm1⟩ := h1.form
  obtain ⟨a2, c2, rfl, hc2, hm2⟩ := h2.form
  unfold maxLen at hm1 hm2
  have HR := Lib.hid hR
  clear hR
  by_cases hlen : xs.length = ys.length
  · have H1 := Lib.hid h1; have H2 := Lib.hid h2
    obtain ⟨n, hn⟩ : ∃ n, n = xs.length := ⟨_, rfl⟩
    have hn2 : n = ys.length := by omega
    have hnb : n ≤ 9223372036854775807 := by omega
    rw [← hn] at H1
    rw [← hn2] at H2
    rw [← hn, ← hn2]
    have HN := Lib.hid hn; have HN2 := Lib.hid hn2
    clear h1 h2 hn hn2 hlen hc1 hm1 hc2 hm2
    go_enter Tryz.func73, Tryz.ntmps73
    go_wp2_with fail
    go_loopw [13] (fun iv wr => ∃ k : Nat, k ≤ n ∧ iv = .int .i64 k ∧ Hid (∀ j, j < k → xs.getD j ⟨#[]⟩ = ys.getD j ⟨#[]⟩) ∧ Hid (∃ m, wr = w.drewN m)) (fun iv _ => n - (intOf iv).toNat)
    case atStart => exact ⟨0, by omega, rfl, fun j hj => by omega, ⟨0, rfl⟩⟩
    case round =>
      obtain ⟨k, hk, rfl, heq, hdr⟩ := hrel
      have hkw : Hid (Kept (fun _ => False) w wr) := by
        obtain ⟨m, hm⟩ := hdr.out
        rw [hm]; exact (Kept.refl _ _).drewN m
      by_cases hlt : k < n
      · have l1 : (k : Int) < (n : Int) := by omega
        have l0 : (0 : Int) ≤ (k : Int) := by omega
        obtain ⟨g, off, rfl, _, hcell⟩ := (H1.out.kept hkw.out (fun _ _ h => h)).at (k := k) (by have := HN.out; omega)
        obtain ⟨g', off', rfl, _, hcell'⟩ := (H2.out.kept hkw.out (fun _ _ h => h)).at (k := k) (by have := HN2.out; omega)
        obtain ⟨x, hx⟩ : ∃ x, x = xs.getD k ⟨#[]⟩ := ⟨_, rfl⟩
        obtain ⟨y, hy⟩ : ∃ y, y = ys.getD k ⟨#[]⟩ := ⟨_, rfl⟩
        rw [← hx] at hcell
        rw [← hy] at hcell'
        have HX := Lib.hid hx; have HY := Lib.hid hy
        clear hx hy
        by_cases he : x = y
        · have hb : (x.toList == y.toList) = true := by rw [str_eq]; simp [he]
          have heq2 : Hid (∀ j, j < k + 1 → xs.getD j ⟨#[]⟩ = ys.getD j ⟨#[]⟩) := fun j hj => by
            by_cases e : j < k
            · exact heq.out j e
            · obtain rfl : j = k := by omega
              rw [← HX.out, ← HY.out]; exact he
          clear he heq
          go_wp2_with fail
          go_quiet (fail)
          have HD2 : Hid (∃ m, wr.drewN nq = w.drewN m) := by
            obtain ⟨m, hm⟩ := hdr.out
            exact ⟨m + nq, by rw [hm, drewN_add8]⟩
          generalize wr.drewN nq = wd at *
          go_wp2_with fail
          go_roundw
          case rel => first | exact ⟨k + 1, by omega, by go_num, heq2, HD2⟩ | ((repeat apply Exists.intro); exact ⟨⟨k + 1, by omega, by go_num, heq2, HD2⟩, rfl⟩) | ((repeat apply Exists.intro); exact ⟨by omega, by go_num, heq2, HD2⟩)
          case measure => simp [intOf]; omega
        · have hb : (x.toList == y.toList) = false := by rw [str_eq]; simp [he]
          have hrf : R = false := by
            rw [HR.out, decide_eq_false_iff_not]
            intro h
            exact he (by rw [HX.out, HY.out, h])
          clear he heq
          subst hrf
          go_wp2_with fail
          go_quiet (fail)
          have HD2 : Hid (∃ m, wr.drewN nq = w.drewN m) := by
            obtain ⟨m, hm⟩ := hdr.out
            exact ⟨m + nq, by rw [hm, drewN_add8]⟩
          generalize wr.drewN nq = wd at *
          go_wp2_with fail
          go_ret
          exact ⟨rfl, HD2.out⟩
      · obtain rfl : k = n := by omega
        have hrt : R = true := by
          rw [HR.out, decide_eq_true_iff]
          apply List.ext_getElem
          · rw [← HN.out, ← HN2.out]
          · intro i h1 h2
            have := heq.out i (by have := HN.out; omega)
            simpa [List.getD, h1, h2] using this
        clear heq
        subst hrt
        go_wp2_with fail
        go_ret
        exact ⟨rfl, hdr.out⟩
  · have hrf : R = false := by
      rw [HR.out, decide_eq_false_iff_not]
      intro h
      exact hlen (by rw [h])
    have hli : ¬ (xs.length : Int) = (ys.length : Int) := by omega
    have hlb : ((xs.length : Int) == (ys.length : Int)) = false := by simp; omega
    subst hrf
    clear h1 h2
    go_enter Tryz.func73, Tryz.ntmps73
    go_wp2_with fail
    go_ret
    exact ⟨rfl, 0, rfl⟩
end Go.Proofs.YtnnakllgfaaejaaGreatDoor
