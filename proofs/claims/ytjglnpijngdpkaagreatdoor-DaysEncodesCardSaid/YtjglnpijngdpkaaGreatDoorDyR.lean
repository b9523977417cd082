import Derived.Test.YtjglnpijngdpkaaGreatDoorDyE
/-
  Days: the reference's Check, Len, Next.
-/
namespace Go.Proofs.YtjglnpijngdpkaaGreatDoor
open Go.RowKit Go.Shelf
set_option linter.unusedSimpArgs false
set_option linter.unusedVariables false
set_option maxRecDepth 100000

/-- Flags in memory. -/
def EB : REnc Bool := ⟨fun b => [.bool b], 1, false, fun _ => rfl, fun x v h => by simp at h; subst h; rfl, by omega⟩
theorem atEB {w : World} {g o : Nat} {b : Bool} (h : AtG EB w g o b) : w.cell? ⟨g, o, none⟩ = some (.bool b) := h 0 _ rfl
/-- How many flags are set. -/
def cntT (s : List Bool) : Nat := (s.filter fun b => b).length
theorem cntT_snoc (s : List Bool) (b : Bool) : cntT (s ++ [b]) = cntT s + (if b = true then 1 else 0) := by
  unfold cntT
  rw [List.filter_append, List.length_append]
  cases b <;> rfl
theorem cntT_le (s : List Bool) : cntT s ≤ s.length := List.length_filter_le _ _

set_option maxHeartbeats 1600000 in
theorem rlenD_any (w : World) (v : Value) (s : List Bool) (h : RowG EB w v s) (hs : s.length ≤ 100000) :
    Calls Tryz.prog 40 #[v] w fun e w' => e = .returned (.int .i64 (cntT s : Nat)) ∧ w = w' := by
  obtain ⟨a, c, rfl, h1, h2⟩ := h.form
  have HV := Lib.hid h
  obtain ⟨N, hN⟩ : ∃ N, N = s.length := ⟨_, rfl⟩
  rw [← hN] at HV hs h1 ⊢
  have HN := Lib.hid hN
  unfold maxLen at h2
  clear h hN
  go_enter Tryz.func40, Tryz.ntmps40
  go_wp2_with fail
  go_loopw [3, 5, 8] (fun nv _ iv wr => ∃ (k m : Nat), k ≤ N ∧ m ≤ k ∧ iv = .int .i64 (k : Int) ∧ nv = .int .i64 (m : Int) ∧ Hid (m = cntT (s.take k)) ∧ wr = w) (fun _ _ iv _ => N - (intOf iv).toNat)
  case atStart => exact ⟨0, 0, Nat.zero_le _, Nat.le_refl _, rfl, rfl, Lib.hid rfl, rfl⟩
  case round =>
    obtain ⟨k, m, hk, hmk, rfl, rfl, hm, rfl⟩ := hrel
    by_cases hlt : k < N
    · have l1 : (k : Int) < (N : Int) := by omega
      have l0 : (0 : Int) ≤ (k : Int) := by omega
      have hkl : k < s.length := by have := HN.out; omega
      obtain ⟨g, off, rfl, hg, hat⟩ := HV.out.at (k := k) hkl
      have htk : s.take (k + 1) = s.take k ++ [s.getD k false] := by rw [List.take_add_one]; simp [List.getD, hkl]
      have hcnt := cntT_snoc (s.take k) (s.getD k false)
      rw [← htk] at hcnt
      change AtG EB wr g (off + k * 1) (s.getD k false) at hat
      rw [Nat.mul_one] at hat
      generalize s.getD k false = b at hat hcnt
      have c0 := atEB hat
      have HC := Lib.hid hcnt
      clear hat hcnt htk
      cases b with
      | true =>
        have HM2 : Hid (m + 1 = cntT (s.take (k + 1))) := Lib.hid (by rw [HC.out, hm.out]; rfl)
        go_wp2_with fail
        go_roundw
        case rel => exact ⟨k + 1, m + 1, by omega, by omega, by go_num, by go_num, HM2, by first | rfl | trivial⟩
        case measure => simp [intOf]; omega
      | false =>
        have HM2 : Hid (m = cntT (s.take (k + 1))) := Lib.hid (by rw [HC.out, hm.out]; rfl)
        go_wp2_with fail
        go_roundw
        case rel => exact ⟨k + 1, m, by omega, by omega, by go_num, rfl, HM2, by first | rfl | trivial⟩
        case measure => simp [intOf]; omega
    · obtain rfl : k = N := by omega
      have e1 : cntT s = m := by rw [hm.out, List.take_of_length_le (by rw [← HN.out]; exact Nat.le_refl _)]
      have HE := Lib.hid e1
      clear e1 hm
      go_wp2_with fail
      go_ret
      exact ⟨by rw [HE.out]; rfl, rfl⟩

/-- What Next of the reference answers. -/
def NextF (s : List Bool) (d r : Int) : Prop :=
  (r = -1 ∧ ∀ x : Nat, d ≤ (x : Int) → x ≤ 30000 → s.getD x false = false) ∨ (∃ n : Nat, r = (n : Int) ∧ d ≤ r ∧ n ≤ 30000 ∧ s.getD n false = true ∧ ∀ x : Nat, d ≤ (x : Int) → x < n → s.getD x false = false)

end Go.Proofs.YtjglnpijngdpkaaGreatDoor
