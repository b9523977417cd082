import Derived.Test.YtjglnpijngdpkaaGreatDoorDySp
import Derived.Test.YtjglnpijngdpkaaGreatDoorGP
import Derived.Test.YtjglnpijngdpkaaGreatDoorDyR
/-
  Days: how many days a set has.
-/
namespace Go.Proofs.YtjglnpijngdpkaaGreatDoor
open Go.RowKit Go.Shelf
set_option linter.unusedSimpArgs false
set_option linter.unusedVariables false
set_option maxRecDepth 100000

/-- How many days spans have. -/
def lenSp (l : List (Int × Int)) : Int := (l.map fun p => p.2 - p.1 + 1).sum
theorem lenSp_append (a b : List (Int × Int)) : lenSp (a ++ b) = lenSp a + lenSp b := by unfold lenSp; rw [List.map_append, List.sum_append]
theorem lenSp_one (p : Int × Int) : lenSp [p] = p.2 - p.1 + 1 := by unfold lenSp; simp
theorem lenSp_bound : ∀ (l : List (Int × Int)), (∀ p ∈ l, okSp p) → 0 ≤ lenSp l ∧ lenSp l ≤ 30001 * l.length
  | [], _ => by unfold lenSp; simp
  | p :: l, h => by
    have h1 := lenSp_bound l fun q hq => h q (by simp [hq])
    obtain ⟨h2, h3, h4⟩ := h p (by simp)
    have e : lenSp (p :: l) = (p.2 - p.1 + 1) + lenSp l := by unfold lenSp; simp
    rw [e, List.length_cons]
    omega
theorem lenD_take {s : List Bool} {t : List Int} (hs : s.length = 30001) (hcan : CanD t) (hv : ∀ d : Nat, d ≤ 30000 → s.getD d false = inD t (d : Int)) : ∀ k : Nat, k ≤ 30001 → (cntT (s.take k) : Int) = lenSp (spansD (cutT t (k : Int)))
  | 0, _ => by rw [show ((0 : Nat) : Int) = 0 from rfl, cutT_start hcan]; rfl
  | k + 1, hk => by
    have ih := lenD_take hs hcan hv k (by omega)
    have hkl : k < s.length := by omega
    have e : s.take (k + 1) = s.take k ++ [s.getD k false] := by rw [List.take_add_one]; simp [List.getD, hkl]
    rw [e, cntT_snoc, hv k (by omega), show ((k + 1 : Nat) : Int) = (k : Int) + 1 by omega]
    by_cases hd : inD t (k : Int) = true
    · rw [if_pos hd]
      by_cases hp : inD t ((k : Int) - 1) = true
      · obtain ⟨a, s1, hev, hc1, hc2⟩ := cutT_more hcan hd hp
        rw [hc1, spansD_append _ _ hev, lenSp_append] at ih
        rw [hc2, spansD_append _ _ hev, lenSp_append]
        have e1 : lenSp (spansD [s1, (k : Int)]) = (k : Int) - 1 - s1 + 1 := lenSp_one _
        have e2 : lenSp (spansD [s1, (k : Int) + 1]) = (k : Int) + 1 - 1 - s1 + 1 := lenSp_one _
        omega
      · have hp2 : inD t ((k : Int) - 1) = false := by simpa using hp
        obtain ⟨hev, hc⟩ := cutT_new hcan hd hp2
        rw [hc, spansD_append _ _ hev, lenSp_append]
        have e2 : lenSp (spansD [(k : Int), (k : Int) + 1]) = (k : Int) + 1 - 1 - k + 1 := lenSp_one _
        omega
    · have hd2 : inD t (k : Int) = false := by simpa using hd
      rw [cutT_no hcan hd2, if_neg hd]
      omega
/-- The reference counts as many. -/
theorem lenD_ref {s : List Bool} {t : List Int} (hs : s.length = 30001) (hcan : CanD t) (hv : ∀ d : Nat, d ≤ 30000 → s.getD d false = inD t (d : Int)) : (cntT s : Int) = lenSp (spansD t) := by
  have := lenD_take hs hcan hv 30001 (Nat.le_refl _)
  rw [List.take_of_length_le (by omega), show ((30001 : Nat) : Int) = 30001 from rfl, cutT_end hcan] at this
  exact this

set_option maxHeartbeats 3200000 in
theorem lenP_any (w0 : World) (s : Value) (t : List Int) (hs : SetD w0 s t) :
    Calls Tryz.prog 39 #[s] w0 fun e w' => e = .returned (.int .i64 (lenSp (spansD t))) ∧ Kept (fun _ => False) w0 w' := by
  have hsW := hs
  obtain ⟨row, rfl, hrow, hcan⟩ := hs
  obtain ⟨ra, rc, rfl, _, _⟩ := hrow.form
  obtain ⟨l, hl⟩ : ∃ l, l = spansD t := ⟨_, rfl⟩
  have hok : ∀ p ∈ l, okSp p := by rw [hl]; exact spansD_ok hcan
  have hlb : l.length ≤ 15001 := by rw [hl, spansD_len]; have := hcan.len; omega
  obtain ⟨N, hN⟩ : ∃ N, N = l.length := ⟨_, rfl⟩
  rw [← hN] at hlb
  have HKA := Lib.hid (Kept.alloc (fun _ => False) w0 (.cells #[.slice ra t.length rc] 26))
  have HCB := Lib.hid (spansP_any _ _ t (hsW.on HKA.out))
  have HL := Lib.hid hl; have HOK := Lib.hid hok; have HN := Lib.hid hN
  rw [← hl]
  clear hl hok hN hsW hrow hcan
  go_enter Tryz.func39, Tryz.ntmps39
  go_wp2_with fail
  refine HCB.out.mono ?_
  generalize (w0.alloc (.cells #[.slice ra t.length rc] 26)) = w1 at *
  rintro e w2 ⟨u, rfl, hu, k2⟩
  rw [← HL.out] at hu
  obtain ⟨la, lc, rfl, _, _⟩ := hu.form
  rw [← HN.out] at hu ⊢
  have HU : Hid (RowG ESp w2 (.slice la N lc) l) := Lib.hid hu.row
  have HK2 := Lib.hid (HKA.out.then k2)
  clear hu k2 HCB HKA
  go_wp2_with fail
  go_loopw [3, 5, 9] (fun nv _ iv wr => ∃ (k : Nat) (y : Int), k ≤ N ∧ 0 ≤ y ∧ y ≤ 30001 * (k : Int) ∧ iv = .int .i64 (k : Int) ∧ nv = .int .i64 y ∧ Hid (y = lenSp (l.take k) ∧ Kept (fun _ => False) w2 wr)) (fun _ _ iv _ => N - (intOf iv).toNat)
  case atStart => exact ⟨0, 0, Nat.zero_le _, by omega, by omega, rfl, rfl, Lib.hid ⟨rfl, Kept.refl _ _⟩⟩
  case round =>
    obtain ⟨k, y, hk, hy0, hy1, rfl, rfl, hI⟩ := hrel
    by_cases hlt : k < N
    · have l1 : (k : Int) < (N : Int) := by omega
      have l0 : (0 : Int) ≤ (k : Int) := by omega
      have hkl : k < l.length := by have := HN.out; omega
      obtain ⟨g, off, rfl, hg, hc⟩ := (HU.out.on hI.out.2).at (k := k) hkl
      have htk : l.take (k + 1) = l.take k ++ [l.getD k (0, 0)] := by rw [List.take_add_one]; simp [List.getD, hkl]
      have hm : l.getD k (0, 0) ∈ l := by simp [List.getD, hkl]
      have hok := HOK.out _ hm
      change AtG ESp wr g (off + k * 2) (l.getD k (0, 0)) at hc
      generalize l.getD k (0, 0) = p at hc htk hok
      obtain ⟨pf, pt⟩ := p
      obtain ⟨c0, c1⟩ := atESp hc
      obtain ⟨o1, o2, o3⟩ := hok
      simp only at c0 c1 o1 o2 o3
      have HKW := Lib.hid (hI.out.2.then (Kept.alloc (fun _ => False) wr (.cells #[.int .i64 pf, .int .i64 pt] 49)))
      have HY : Hid (y + (pt - pf + 1) = lenSp (l.take (k + 1))) := Lib.hid (by rw [htk, lenSp_append, lenSp_one, ← hI.out.1])
      have b1 : IntKind.i64.wrap (pt - pf) = pt - pf := by rw [IntKind.wrap_i64]; omega
      have b2 : IntKind.i64.wrap (pt - pf + 1) = pt - pf + 1 := by rw [IntKind.wrap_i64]; omega
      have b3 : IntKind.i64.wrap (y + (pt - pf + 1)) = y + (pt - pf + 1) := by rw [IntKind.wrap_i64]; omega
      clear hc hg hI htk hm
      go_wp2_with fail
      go_roundw
      case rel => exact ⟨k + 1, y + (pt - pf + 1), by omega, by omega, by omega, by go_num, by first | rfl | trivial, Lib.hid ⟨HY.out, HKW.out⟩⟩
      case measure => simp [intOf]; omega
    · obtain rfl : k = N := by omega
      have HE : Hid (y = lenSp l) := Lib.hid (by rw [hI.out.1, List.take_of_length_le (by rw [← HN.out]; exact Nat.le_refl _)])
      go_wp2_with fail
      go_ret
      exact ⟨by first | (rw [HE.out]; rfl) | rw [HE.out], HK2.out.then hI.out.2⟩
end Go.Proofs.YtjglnpijngdpkaaGreatDoor
