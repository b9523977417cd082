/-
  bits.Set.Meets.
-/
import Derived.Test.YteaagllpkcpedaaGreatDoorBMi
import Derived.Test.YteaagllpkcpedaaGreatDoorBCm
import Derived.BigQuiet
namespace Go.Proofs.YteaagllpkcpedaaGreatDoor
open Go.RowKit

theorem and_zero {M K n : Nat} (h0 : (M % 2 ^ 64) &&& (K % 2 ^ 64) = 0) (hM : M / 2 ^ 64 &&& K / 2 ^ 64 < 2 ^ (64 * n)) (h : ∀ j, j < n → wordN (M / 2 ^ 64) j &&& wordN (K / 2 ^ 64) j = 0) : M &&& K = 0 := by
  have h1 : (M &&& K) % 2 ^ 64 = 0 := by rw [mod_and]; exact h0
  have h2 : (M &&& K) / 2 ^ 64 = 0 := by
    rw [div_and]
    refine eq_words (N := n) hM (Nat.pow_pos (by omega)) fun j hj => ?_
    rw [wordN_and, h j hj]
    simp [wordN]
  have := Nat.div_add_mod (M &&& K) (2 ^ 64)
  rw [h1, h2] at this
  omega
theorem and_some0 {M K : Nat} (h : (M % 2 ^ 64) &&& (K % 2 ^ 64) ≠ 0) : M &&& K ≠ 0 := fun e => h (by rw [← mod_and, e])
theorem and_some {M K j : Nat} (h : wordN (M / 2 ^ 64) j &&& wordN (K / 2 ^ 64) j ≠ 0) : M &&& K ≠ 0 := fun e => h (by rw [← wordN_and, ← div_and, e]; simp [wordN])

set_option maxRecDepth 100000 in
set_option maxHeartbeats 3200000 in
theorem meets_at (w : World) (M K : Nat) (a1 : Option Addr) (c1 : Nat) (hs ks : List Nat) (a2 : Option Addr) (c2 : Nat) (hw : Words w (.slice a1 hs.length c1) hs) (hc : Canon hs (M / 2 ^ 64)) (hl : hs.length ≤ 63)
    (hw2 : Words w (.slice a2 ks.length c2) ks) (hc2 : Canon ks (K / 2 ^ 64)) (hl2 : ks.length ≤ 63) :
    Calls Tryz.prog 22 #[.agg #[.int .u64 (M % 2 ^ 64 : Nat), .slice a1 hs.length c1], .agg #[.int .u64 (K % 2 ^ 64 : Nat), .slice a2 ks.length c2]] w fun e w' => e = .returned (.bool (decide (M &&& K ≠ 0))) ∧ Kept (fun _ => False) w w' := by
  obtain ⟨n, hn⟩ : ∃ n, n = hs.length := ⟨_, rfl⟩
  obtain ⟨m, hm⟩ : ∃ n, n = ks.length := ⟨_, rfl⟩
  obtain ⟨lo1, hl1⟩ : ∃ l, l = M % 2 ^ 64 := ⟨_, rfl⟩
  obtain ⟨lo2, hl2'⟩ : ∃ l, l = K % 2 ^ 64 := ⟨_, rfl⟩
  obtain ⟨z, hz⟩ : ∃ z, z = lo1 &&& lo2 := ⟨_, rfl⟩
  have hl1b : lo1 < 18446744073709551616 := by rw [hl1]; exact Nat.mod_lt _ (by decide)
  have hl2b : lo2 < 18446744073709551616 := by rw [hl2']; exact Nat.mod_lt _ (by decide)
  have hx : bits .and .u64 (lo1 : Int) (lo2 : Int) = (z : Int) := by rw [hz]; exact u64_and_nat _ _ hl1b hl2b
  obtain ⟨mn, hmn, hmn1, hmn2⟩ : ∃ mn : Nat, ((n ≤ m ∧ mn = n) ∨ (m < n ∧ mn = m)) ∧ mn ≤ n ∧ mn ≤ m := by
    rcases Nat.lt_or_ge m n with h | h
    · exact ⟨m, Or.inr ⟨h, rfl⟩, by omega, by omega⟩
    · exact ⟨n, Or.inl ⟨h, rfl⟩, by omega, by omega⟩
  have hlt : M / 2 ^ 64 &&& K / 2 ^ 64 < 2 ^ (64 * mn) := by
    rcases hmn with ⟨_, e⟩ | ⟨_, e⟩
    · rw [e, hn]; exact Nat.lt_of_le_of_lt Nat.and_le_left hc.lt
    · rw [e, hm]; exact Nat.lt_of_le_of_lt Nat.and_le_right hc2.lt
  have hk1 : ∀ i, i < n → ∃ gg off, a1 = some ⟨gg, off, none⟩ ∧ gg < w.heap.size ∧ w.cell? ⟨gg, off + i, none⟩ = some (.int .u64 (wordN (M / 2 ^ 64) i : Nat)) := fun i hi => by
    obtain ⟨a, c, e, _, hcell⟩ := words_form hw
    cases e
    obtain ⟨gg, off, e1, e2, e3⟩ := hcell i (by omega)
    exact ⟨gg, off, e1, e2, by rw [e3, canon_getD hc i (by omega)]⟩
  have hk2 : ∀ i, i < m → ∃ gg off, a2 = some ⟨gg, off, none⟩ ∧ gg < w.heap.size ∧ w.cell? ⟨gg, off + i, none⟩ = some (.int .u64 (wordN (K / 2 ^ 64) i : Nat)) := fun i hi => by
    obtain ⟨a, c, e, _, hcell⟩ := words_form hw2
    cases e
    obtain ⟨gg, off, e1, e2, e3⟩ := hcell i (by omega)
    exact ⟨gg, off, e1, e2, by rw [e3, canon_getD hc2 i (by omega)]⟩
  have hS0 : z ≠ 0 → M &&& K ≠ 0 := fun h => and_some0 (by rw [← hl1, ← hl2', ← hz]; exact h)
  have hE0 : z = 0 → (∀ j, j < mn → wordN (M / 2 ^ 64) j &&& wordN (K / 2 ^ 64) j = 0) → M &&& K = 0 := fun h h2 => and_zero (by rw [← hl1, ← hl2', ← hz]; exact h) hlt h2
  rw [← hl1, ← hl2', ← hn, ← hm]
  obtain ⟨wA, hwA⟩ : ∃ wA, wA = (w.alloc (.cells #[.int .u64 lo1, .slice a1 n c1] 28)).alloc (.cells #[.int .u64 lo2, .slice a2 m c2] 28) := ⟨_, rfl⟩
  have hkA : Kept (fun _ => False) w wA := by rw [hwA]; exact (Kept.alloc _ _ _).then (Kept.alloc _ _ _)
  have hbx : ∀ W, Kept (fun _ => False) wA W → W.cell? ⟨w.heap.size, 0, none⟩ = some (.int .u64 (lo1 : Int)) ∧ W.cell? ⟨w.heap.size, 1, none⟩ = some (.slice a1 n c1) ∧ W.cell? ⟨w.heap.size + 1, 0, none⟩ = some (.int .u64 (lo2 : Int)) ∧ W.cell? ⟨w.heap.size + 1, 1, none⟩ = some (.slice a2 m c2) := fun W hk => by
    have hsz : wA.heap.size = w.heap.size + 2 := by rw [hwA]; simp
    refine ⟨(hk.cell (p := ⟨w.heap.size, 0, none⟩) (by simp; omega) (fun h => h)).trans (by rw [hwA]; go_simp), (hk.cell (p := ⟨w.heap.size, 1, none⟩) (by simp; omega) (fun h => h)).trans (by rw [hwA]; go_simp), (hk.cell (p := ⟨w.heap.size + 1, 0, none⟩) (by simp; omega) (fun h => h)).trans (by rw [hwA]; go_simp), (hk.cell (p := ⟨w.heap.size + 1, 1, none⟩) (by simp; omega) (fun h => h)).trans (by rw [hwA]; go_simp)⟩
  have HBX := Lib.hid hbx; have HKA := Lib.hid hkA; have HWA := Lib.hid hwA; have HK1 := Lib.hid hk1; have HK2 := Lib.hid hk2; have HS0 := Lib.hid hS0; have HE0 := Lib.hid hE0
  clear hbx hkA hwA hk1 hk2 hS0 hE0 hlt hz hl1 hl2' hl1b hl2b hw hw2 hc hc2
  rw [← hn] at hl
  rw [← hm] at hl2
  clear hn hm
  by_cases hz0 : z = 0
  · have hzb : ((z : Int) != 0) = false := by simp [hz0]
    rcases hmn with ⟨h1, hme⟩ | ⟨h1, hme⟩
    all_goals
      have HME := Lib.hid hme; clear hme
      go_enter Tryz.func22, Tryz.ntmps22
      go_wp2_with fail
      rw [← HWA.out]
      go_loopw [19] (fun iv wr => ∃ k : Nat, k ≤ mn ∧ iv = .int .i64 k ∧ (∀ j, j < k → wordN (M / 2 ^ 64) j &&& wordN (K / 2 ^ 64) j = 0) ∧ Hid (Kept (fun _ => False) wA wr)) (fun iv _ => mn - (intOf iv).toNat)
      case atStart => exact ⟨0, Nat.zero_le _, rfl, (fun j hj => by omega), Kept.refl _ _⟩
      case round =>
        obtain ⟨k, hk, rfl, hbe, hkr⟩ := hrel
        have HBE := Lib.hid hbe
        clear hbe
        obtain ⟨b0, b1, b2, b3⟩ := HBX.out wr hkr.out
        by_cases hlt : k < mn
        · have hkn : k < n := by omega
          have hkm : k < m := by omega
          obtain ⟨g1, off1, ha1, hg1, hc1⟩ := HK1.out k hkn
          obtain ⟨g2, off2, ha2, hg2, hc2⟩ := HK2.out k hkm
          subst ha1 ha2
          have ck1 := ((HKA.out.then hkr.out).cell (p := ⟨g1, off1 + k, none⟩) hg1 (fun h => h)).trans hc1
          have ck2 := ((HKA.out.then hkr.out).cell (p := ⟨g2, off2 + k, none⟩) hg2 (fun h => h)).trans hc2
          have hand : bits .and .u64 (wordN (M / 2 ^ 64) k : Int) (wordN (K / 2 ^ 64) k : Int) = ((wordN (M / 2 ^ 64) k &&& wordN (K / 2 ^ 64) k : Nat) : Int) := u64_and_nat _ _ (wordN_lt _ _) (wordN_lt _ _)
          have HSOME : Hid (wordN (M / 2 ^ 64) k &&& wordN (K / 2 ^ 64) k ≠ 0 → M &&& K ≠ 0) := and_some
          have HX : Hid (wordN (M / 2 ^ 64) k &&& wordN (K / 2 ^ 64) k = 0 → ∀ j, j < k + 1 → wordN (M / 2 ^ 64) j &&& wordN (K / 2 ^ 64) j = 0) := fun h j hj => by
            by_cases hjk : j < k
            · exact HBE.out j hjk
            · have : j = k := by omega
              subst this; exact h
          have hlt1 : (k : Int) < (mn : Int) := by omega
          have hlt2 : (k : Int) < (n : Int) := by omega
          have hlt3 : (k : Int) < (m : Int) := by omega
          have hk0 : (0 : Int) ≤ (k : Int) := by omega
          generalize wordN (M / 2 ^ 64) k &&& wordN (K / 2 ^ 64) k = x at hand HSOME HX
          generalize wordN (M / 2 ^ 64) k = y1 at hand ck1
          generalize wordN (K / 2 ^ 64) k = y2 at hand ck2
          clear hc1 hc2 HBE
          by_cases hx0 : x = 0
          · have hxb : ((x : Int) != 0) = false := by simp [hx0]
            go_wp2_with fail
            go_quiet (fail)
            go_wp2_with fail
            go_roundw
            case rel => exact ⟨k + 1, by omega, by go_num, HX.out hx0, Lib.hid (hkr.out.drewN _)⟩
            case measure => simp [intOf]; omega
          · have hxb : ((x : Int) != 0) = true := by simp; omega
            have HR := Lib.hid (HSOME.out hx0)
            go_wp2_with fail
            go_quiet (fail)
            go_wp2_with fail
            go_ret
            exact ⟨by rw [decide_eq_true HR.out]; rfl, HKA.out.then (hkr.out.drewN _)⟩
        · have hkn : k = mn := by omega
          have hme := HME.out
          have hx1 : (¬ (k : Int) < (n : Int) ∧ n ≤ m) ∨ (¬ (k : Int) < (m : Int) ∧ m < n) := by omega
          have HR := Lib.hid (HE0.out hz0 (fun j hj => HBE.out j (by omega)))
          clear HBE hme
          rcases hx1 with ⟨hx1, hx2⟩ | ⟨hx1, hx2⟩
          all_goals
            first
              | (exfalso; omega)
              | (clear hkn
                 go_wp2_with fail
                 go_ret
                 exact ⟨by first | (rw [decide_eq_true HR.out]; rfl) | (rw [decide_eq_false (fun h => h HR.out)]; rfl), HKA.out.then hkr.out⟩)
  · have hzb : ((z : Int) != 0) = true := by simp; omega
    have HR := Lib.hid (HS0.out hz0)
    go_enter Tryz.func22, Tryz.ntmps22
    go_wp2_with fail
    rw [← HWA.out]
    go_ret
    exact ⟨by rw [decide_eq_true HR.out]; rfl, HKA.out⟩

theorem meets_any (w : World) (v u : Value) (M K : Nat) (hv : SetV w v M) (hu : SetV w u K) (hS : Small M) (hS2 : Small K) :
    Calls Tryz.prog 22 #[v, u] w fun e w' => e = .returned (.bool (decide (M &&& K ≠ 0))) ∧ Kept (fun _ => False) w w' := by
  obtain ⟨x, hs, rfl, hw, hc, _⟩ := hv.ex
  obtain ⟨y, ks, rfl, hw2, hc2, _⟩ := hu.ex
  obtain ⟨a1, c1, rfl⟩ := hw.form
  obtain ⟨a2, c2, rfl⟩ := hw2.form
  exact meets_at w M K a1 c1 hs ks a2 c2 hw hc (hc.small hS) hw2 hc2 (hc2.small hS2)
end Go.Proofs.YteaagllpkcpedaaGreatDoor
