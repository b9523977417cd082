/-
  bits.Set.Within, Least; arbacref01.Same.
-/
import Derived.Test.YteaagllpkcpedaaGreatDoorBMi
import Derived.Test.YteaagllpkcpedaaGreatDoorBCm
import Derived.Test.YteaagllpkcpedaaGreatDoorBEq
import Derived.Test.YteaagllpkcpedaaGreatDoorBAkM
namespace Go.Proofs.YteaagllpkcpedaaGreatDoor
open Go.RowKit
set_option linter.unusedVariables false

theorem an_zero {M K n : Nat} (h0 : anN (M % 2 ^ 64) (K % 2 ^ 64) = 0) (hM : M / 2 ^ 64 < 2 ^ (64 * n)) (h : ∀ j, j < n → anN (wordN (M / 2 ^ 64) j) (wordN (K / 2 ^ 64) j) = 0) : anN M K = 0 := by
  have h1 : anN M K % 2 ^ 64 = 0 := by rw [mod_an]; exact h0
  have h2 : anN M K / 2 ^ 64 = 0 := by
    rw [div_an]
    refine eq_words (N := n) (Nat.lt_of_le_of_lt (anN_le _ _) hM) (Nat.pow_pos (by omega)) fun j hj => ?_
    rw [wordN_an, h j hj]
    simp [wordN]
  have := Nat.div_add_mod (anN M K) (2 ^ 64)
  rw [h1, h2] at this
  omega
theorem an_some0 {M K : Nat} (h : anN (M % 2 ^ 64) (K % 2 ^ 64) ≠ 0) : anN M K ≠ 0 := fun e => h (by rw [← mod_an, e])
theorem an_some {M K j : Nat} (h : anN (wordN (M / 2 ^ 64) j) (wordN (K / 2 ^ 64) j) ≠ 0) : anN M K ≠ 0 := fun e => h (by rw [← wordN_an, ← div_an, e]; simp [wordN])

set_option maxRecDepth 100000 in
set_option maxHeartbeats 3200000 in
theorem within_at (w : World) (M K : Nat) (a1 : Option Addr) (c1 : Nat) (hs ks : List Nat) (a2 : Option Addr) (c2 : Nat) (hw : Words w (.slice a1 hs.length c1) hs) (hc : Canon hs (M / 2 ^ 64)) (hl : hs.length ≤ 63)
    (hw2 : Words w (.slice a2 ks.length c2) ks) (hc2 : Canon ks (K / 2 ^ 64)) (hl2 : ks.length ≤ 63) :
    Calls Tryz.prog 21 #[.agg #[.int .u64 (M % 2 ^ 64 : Nat), .slice a1 hs.length c1], .agg #[.int .u64 (K % 2 ^ 64 : Nat), .slice a2 ks.length c2]] w fun e w' => e = .returned (.bool (decide (anN M K = 0))) ∧ Kept (fun _ => False) w w' := by
  have hbig : ks.length < hs.length → anN M K ≠ 0 := fun h e => by
    have h1 : anN (M / 2 ^ 64) (K / 2 ^ 64) = 0 := by rw [← div_an, e]
    have := canon_le hc hc2 (an_sub h1)
    omega
  obtain ⟨n, hn⟩ : ∃ n, n = hs.length := ⟨_, rfl⟩
  obtain ⟨m, hm⟩ : ∃ n, n = ks.length := ⟨_, rfl⟩
  obtain ⟨lo1, hl1⟩ : ∃ l, l = M % 2 ^ 64 := ⟨_, rfl⟩
  obtain ⟨lo2, hl2'⟩ : ∃ l, l = K % 2 ^ 64 := ⟨_, rfl⟩
  obtain ⟨z, hz⟩ : ∃ z, z = anN lo1 lo2 := ⟨_, rfl⟩
  have hl1b : lo1 < 18446744073709551616 := by rw [hl1]; exact Nat.mod_lt _ (by decide)
  have hl2b : lo2 < 18446744073709551616 := by rw [hl2']; exact Nat.mod_lt _ (by decide)
  have hx : bits .andNot .u64 (lo1 : Int) (lo2 : Int) = (z : Int) := by rw [hz]; exact u64_anN _ _ hl1b hl2b
  have hk1 : ∀ i, i < n → ∃ gg off, a1 = some ⟨gg, off, none⟩ ∧ gg < w.heap.size ∧ w.cell? ⟨gg, off + i, none⟩ = some (.int .u64 (wordN (M / 2 ^ 64) i : Nat)) := fun i hi => by
    obtain ⟨a, c, e, _, hcell⟩ := words_form hw
    cases e
    obtain ⟨gg, off, e1, e2, e3⟩ := hcell i (by omega)
    exact ⟨gg, off, e1, e2, by rw [e3, canon_getD hc i (by omega)]⟩
  have hk2 : ∀ i, i < m → ∃ gg off, a2 = some ⟨gg, off, none⟩ ∧ gg < w.heap.size ∧ w.cell? ⟨gg, off + i, none⟩ = some (.int .u64 (wordN (K / 2 ^ 64) i : Nat)) := fun i hi => by
    obtain ⟨a, c, e, _, hcell⟩ := words_form hw2
    cases e
    obtain ⟨gg, off, e1, e2, e3⟩ := hcell i (by omega)
    exact ⟨gg, off, e1, e2, by rw [e3, canon_getD hc2 i (by omega)]⟩
  have hS0 : z ≠ 0 → anN M K ≠ 0 := fun h => an_some0 (by rw [← hl1, ← hl2', ← hz]; exact h)
  have hlt : M / 2 ^ 64 < 2 ^ (64 * n) := by rw [hn]; exact hc.lt
  have hE0 : z = 0 → (∀ j, j < n → anN (wordN (M / 2 ^ 64) j) (wordN (K / 2 ^ 64) j) = 0) → anN M K = 0 := fun h h2 => an_zero (by rw [← hl1, ← hl2', ← hz]; exact h) hlt h2
  rw [← hl1, ← hl2', ← hn, ← hm]
  rw [← hn, ← hm] at hbig
  obtain ⟨wA, hwA⟩ : ∃ wA, wA = (w.alloc (.cells #[.int .u64 lo1, .slice a1 n c1] 28)).alloc (.cells #[.int .u64 lo2, .slice a2 m c2] 28) := ⟨_, rfl⟩
  have hkA : Kept (fun _ => False) w wA := by rw [hwA]; exact (Kept.alloc _ _ _).then (Kept.alloc _ _ _)
  have hbx : ∀ W, Kept (fun _ => False) wA W → W.cell? ⟨w.heap.size, 0, none⟩ = some (.int .u64 (lo1 : Int)) ∧ W.cell? ⟨w.heap.size, 1, none⟩ = some (.slice a1 n c1) ∧ W.cell? ⟨w.heap.size + 1, 0, none⟩ = some (.int .u64 (lo2 : Int)) ∧ W.cell? ⟨w.heap.size + 1, 1, none⟩ = some (.slice a2 m c2) := fun W hk => by
    have hsz : wA.heap.size = w.heap.size + 2 := by rw [hwA]; simp
    refine ⟨(hk.cell (p := ⟨w.heap.size, 0, none⟩) (by simp; omega) (fun h => h)).trans (by rw [hwA]; go_simp), (hk.cell (p := ⟨w.heap.size, 1, none⟩) (by simp; omega) (fun h => h)).trans (by rw [hwA]; go_simp), (hk.cell (p := ⟨w.heap.size + 1, 0, none⟩) (by simp; omega) (fun h => h)).trans (by rw [hwA]; go_simp), (hk.cell (p := ⟨w.heap.size + 1, 1, none⟩) (by simp; omega) (fun h => h)).trans (by rw [hwA]; go_simp)⟩
  have HBX := Lib.hid hbx; have HKA := Lib.hid hkA; have HWA := Lib.hid hwA; have HK1 := Lib.hid hk1; have HK2 := Lib.hid hk2; have HS0 := Lib.hid hS0; have HE0 := Lib.hid hE0; have HBIG := Lib.hid hbig
  clear hbx hkA hwA hk1 hk2 hS0 hE0 hlt hz hl1 hl2' hl1b hl2b hw hw2 hc hc2 hbig
  rw [← hn] at hl
  rw [← hm] at hl2
  clear hn hm
  by_cases hz0 : z = 0
  · have hzb : ((z : Int) != 0) = false := by simp [hz0]
    by_cases hnm : m < n
    · have hnm' : (m : Int) < (n : Int) := by omega
      have HR := Lib.hid (HBIG.out hnm)
      clear hnm
      go_enter Tryz.func21, Tryz.ntmps21
      go_wp2_with fail
      rw [← HWA.out]
      go_ret
      exact ⟨by rw [decide_eq_false HR.out]; rfl, HKA.out⟩
    · have hnm' : ¬ (m : Int) < (n : Int) := by omega
      go_enter Tryz.func21, Tryz.ntmps21
      go_wp2_with fail
      rw [← HWA.out]
      go_loopw [24] (fun iv wr => ∃ k : Nat, k ≤ n ∧ iv = .int .i64 k ∧ (∀ j, j < k → anN (wordN (M / 2 ^ 64) j) (wordN (K / 2 ^ 64) j) = 0) ∧ Hid (Kept (fun _ => False) wA wr)) (fun iv _ => n - (intOf iv).toNat)
      case atStart => exact ⟨0, Nat.zero_le _, rfl, (fun j hj => by omega), Kept.refl _ _⟩
      case round =>
        obtain ⟨k, hk, rfl, hbe, hkr⟩ := hrel
        have HBE := Lib.hid hbe
        clear hbe
        obtain ⟨b0, b1, b2, b3⟩ := HBX.out wr hkr.out
        by_cases hlt : k < n
        · have hkm : k < m := by omega
          obtain ⟨g1, off1, ha1, hg1, hc1⟩ := HK1.out k hlt
          obtain ⟨g2, off2, ha2, hg2, hc2⟩ := HK2.out k hkm
          subst ha1 ha2
          have ck1 := ((HKA.out.then hkr.out).cell (p := ⟨g1, off1 + k, none⟩) hg1 (fun h => h)).trans hc1
          have ck2 := ((HKA.out.then hkr.out).cell (p := ⟨g2, off2 + k, none⟩) hg2 (fun h => h)).trans hc2
          have hand : bits .andNot .u64 (wordN (M / 2 ^ 64) k : Int) (wordN (K / 2 ^ 64) k : Int) = ((anN (wordN (M / 2 ^ 64) k) (wordN (K / 2 ^ 64) k) : Nat) : Int) := u64_anN _ _ (wordN_lt _ _) (wordN_lt _ _)
          have HSOME : Hid (anN (wordN (M / 2 ^ 64) k) (wordN (K / 2 ^ 64) k) ≠ 0 → anN M K ≠ 0) := an_some
          have HX : Hid (anN (wordN (M / 2 ^ 64) k) (wordN (K / 2 ^ 64) k) = 0 → ∀ j, j < k + 1 → anN (wordN (M / 2 ^ 64) j) (wordN (K / 2 ^ 64) j) = 0) := fun h j hj => by
            by_cases hjk : j < k
            · exact HBE.out j hjk
            · have : j = k := by omega
              subst this; exact h
          have hlt1 : (k : Int) < (n : Int) := by omega
          have hlt3 : (k : Int) < (m : Int) := by omega
          have hk0 : (0 : Int) ≤ (k : Int) := by omega
          generalize anN (wordN (M / 2 ^ 64) k) (wordN (K / 2 ^ 64) k) = x at hand HSOME HX
          generalize wordN (M / 2 ^ 64) k = y1 at hand ck1
          generalize wordN (K / 2 ^ 64) k = y2 at hand ck2
          clear hc1 hc2 HBE
          by_cases hx0 : x = 0
          · have hxb : ((x : Int) != 0) = false := by simp [hx0]
            go_wp2_with fail
            go_quiet (fail)
            go_wp2_with fail
            go_roundw
            case rel => exact ⟨k + 1, by omega, by go_num, HX.out hx0, Lib.hid (hkr.out.drewN _)⟩
            case measure => simp [intOf]; omega
          · have hxb : ((x : Int) != 0) = true := by simp; omega
            have HR := Lib.hid (HSOME.out hx0)
            go_wp2_with fail
            go_quiet (fail)
            go_wp2_with fail
            go_ret
            exact ⟨by rw [decide_eq_false HR.out]; rfl, HKA.out.then (hkr.out.drewN _)⟩
        · have hkn : k = n := by omega
          have hx1 : ¬ (k : Int) < (n : Int) := by omega
          have HR := Lib.hid (HE0.out hz0 (fun j hj => HBE.out j (by omega)))
          clear HBE hkn
          go_wp2_with fail
          go_ret
          exact ⟨by rw [decide_eq_true HR.out]; rfl, HKA.out.then hkr.out⟩
  · have hzb : ((z : Int) != 0) = true := by simp; omega
    have HR := Lib.hid (HS0.out hz0)
    go_enter Tryz.func21, Tryz.ntmps21
    go_wp2_with fail
    rw [← HWA.out]
    go_ret
    exact ⟨by rw [decide_eq_false HR.out]; rfl, HKA.out⟩
theorem within_any (w : World) (v u : Value) (M K : Nat) (hv : SetV w v M) (hu : SetV w u K) (hS : Small M) (hS2 : Small K) :
    Calls Tryz.prog 21 #[v, u] w fun e w' => e = .returned (.bool (decide (anN M K = 0))) ∧ Kept (fun _ => False) w w' := by
  obtain ⟨x, hs, rfl, hw, hc, _⟩ := hv.ex
  obtain ⟨y, ks, rfl, hw2, hc2, _⟩ := hu.ex
  obtain ⟨a1, c1, rfl⟩ := hw.form
  obtain ⟨a2, c2, rfl⟩ := hw2.form
  exact within_at w M K a1 c1 hs ks a2 c2 hw hc (hc.small hS) hw2 hc2 (hc2.small hS2)

theorem least_word {M k : Nat} (hne : wordN M k ≠ 0) (hbe : ∀ j, j < k → wordN M j = 0) : Lib.ctz 64 (wordN M k) < 64 ∧ LeastS M (64 * k + Lib.ctz 64 (wordN M k)) := by
  have h0 : ∀ j, wordN 0 j = 0 := fun j => by simp [wordN]
  have h := ld_word (M := M) (K := 0) (k := k) (by rw [h0, Nat.xor_zero]; exact hne) (fun j hj => by rw [h0, hbe j hj])
  rw [h0, Nat.xor_zero] at h
  refine ⟨h.1, ?_, fun i hi => by rw [h.2.eq i hi]; simp⟩
  have := h.2.ne
  rw [Nat.zero_testBit] at this
  simpa using this

set_option maxRecDepth 100000 in
set_option maxHeartbeats 3200000 in
theorem least_at (w : World) (M lo n : Nat) (a : Option Addr) (c : Nat) (hs : List Nat) (hlo : lo = M % 2 ^ 64) (hn : hs.length = n) (hw : Words w (.slice a n c) hs) (hc : Canon hs (M / 2 ^ 64)) (hln : n ≤ 63) (hT : Tz w) :
    Calls Tryz.prog 15 #[.agg #[.int .u64 lo, .slice a n c]] w fun e w' => ((M = 0 ∧ e = .returned (.tuple #[.int .i64 0, .bool false])) ∨ ∃ d : Nat, LeastS M d ∧ e = .returned (.tuple #[.int .i64 d, .bool true])) ∧ Kept (fun _ => False) w w' := by
  have hbM : M < 2 ^ (64 * (1 + n)) := by
    have h1 := hc.lt
    rw [hn] at h1
    rw [show 64 * (1 + n) = 64 * n + 64 by omega, Nat.pow_add]
    exact (Nat.div_lt_iff_lt_mul (Nat.pow_pos (by omega))).1 h1
  have hwd : ∀ k, wd lo hs k = wordN M k := fun k => by rw [hlo]; exact wd_word M hs hc k
  have HZ : Hid ((∀ j, j < 1 + n → wordN M j = 0) → M = 0) := fun h => eq_words hbM (Nat.pow_pos (by omega)) (fun j hj => by rw [h j hj]; simp [wordN])
  obtain ⟨wA, hwA⟩ : ∃ wA, wA = w.alloc (.cells #[.int .u64 lo, .slice a n c] 28) := ⟨_, rfl⟩
  have hkA : Kept (fun _ => False) w wA := by rw [hwA]; exact Kept.alloc _ _ _
  have HBX : Hid (∀ W, Kept (fun _ => False) wA W → W.cell? ⟨w.heap.size, 0, none⟩ = some (.int .u64 (lo : Int)) ∧ W.cell? ⟨w.heap.size, 1, none⟩ = some (.slice a n c)) := fun W hk => by
    have hsz : wA.heap.size = w.heap.size + 1 := by rw [hwA]; simp
    exact ⟨(hk.cell (p := ⟨w.heap.size, 0, none⟩) (by simp; omega) (fun h => h)).trans (by rw [hwA]; go_simp), (hk.cell (p := ⟨w.heap.size, 1, none⟩) (by simp; omega) (fun h => h)).trans (by rw [hwA]; go_simp)⟩
  have HW1 := Lib.hid (fun (k : Nat) (hk : k ≤ 1000) (W : World) (kw : Kept (fun _ => False) wA W) => (hwd k) ▸ word_any W lo (.slice a n c) hs k (hw.kept (hkA.then kw) (fun _ _ h => h)) (by omega))
  have HT := Lib.hid (hT.kept hkA (fun h => h)); have HKA := Lib.hid hkA; have HWA := Lib.hid hwA
  obtain ⟨N, hN⟩ : ∃ N, N = 1 + n := ⟨_, rfl⟩
  have hNi : (1 : Int) + (n : Int) = (N : Int) := by omega
  have HNN := Lib.hid hN
  clear hbM hwd hkA hwA hw hc hlo hT
  go_enter Tryz.func15, Tryz.ntmps15
  go_wp2_with fail
  rw [← HWA.out]
  obtain ⟨b0, b1⟩ := HBX.out wA (Kept.refl _ _)
  refine (words_any _ lo n c a (by omega)).mono ?_
  rintro e w1 ⟨rfl, k1⟩
  rw [hNi]
  have K1 := Lib.hid k1
  clear k1 b0 b1 hNi
  go_wp2_with fail
  go_loopw [8] (fun iv wr => ∃ k : Nat, k ≤ N ∧ iv = .int .i64 k ∧ Hid (∀ j, j < k → wordN M j = 0) ∧ Hid (Kept (fun _ => False) wA wr)) (fun iv _ => N - (intOf iv).toNat)
  case atStart => exact ⟨0, Nat.zero_le _, rfl, (fun j hj => by omega), K1⟩
  case round =>
    obtain ⟨k, hk, rfl, HBE, hkr⟩ := hrel
    by_cases hlt : k < N
    · have hlt' : (k : Int) < (N : Int) := by omega
      obtain ⟨b0, b1⟩ := HBX.out wr hkr.out
      have HA1 := Lib.hid (HW1.out k (by have := HNN.out; omega))
      have hxl : wordN M k < 18446744073709551616 := wordN_lt M k
      have HLD : Hid (wordN M k ≠ 0 → Lib.ctz 64 (wordN M k) < 64 ∧ LeastS M (64 * k + Lib.ctz 64 (wordN M k))) := fun h => least_word h HBE.out
      generalize hy1 : wordN M k = x at HA1 hxl HLD
      have HY1 := Lib.hid hy1
      clear hy1
      go_wp2_with fail
      refine (HA1.out _ hkr.out).mono ?_
      rintro e w2 ⟨rfl, k2⟩
      replace hkr := Lib.hid (hkr.out.then k2)
      clear k2 b0 b1
      by_cases hx0 : x = 0
      · have hxb : ((x : Int) != 0) = false := by simp [hx0]
        have HX0 := Lib.hid hx0
        clear hx0
        go_wp2_with fail
        go_roundw
        case rel => exact ⟨k + 1, by omega, by go_num, (fun j hj => by
          by_cases hjk : j < k
          · exact HBE.out j hjk
          · have : j = k := by omega
            subst this
            rw [HY1.out, HX0.out]), hkr⟩
        case measure => simp [intOf]; omega
      · have hxb : ((x : Int) != 0) = true := by simp; omega
        obtain ⟨hz, hld⟩ := HLD.out hx0
        have HL := Lib.hid (fun (W : World) (h : Tz W) => leastIn_any x k hxl (by have := HNN.out; omega) (by omega) W h)
        generalize Lib.ctz 64 x = z at hz hld HL
        have HLDD := Lib.hid hld
        clear hld HLD
        go_wp2_with fail
        refine (HL.out _ (HT.out.kept hkr.out (fun h => h))).mono ?_
        rintro e w8 ⟨rfl, rfl⟩
        go_wp2_with fail
        go_ret2
        exact ⟨Or.inr ⟨_, HLDD.out, rfl⟩, HKA.out.then hkr.out⟩
    · have hkn : k = N := by omega
      have hlt' : ¬ (k : Int) < (N : Int) := by omega
      have HR := Lib.hid (HZ.out (fun j hj => HBE.out j (by have := HNN.out; omega)))
      clear hkn
      go_wp2_with fail
      go_ret2
      exact ⟨Or.inl ⟨HR.out, rfl⟩, HKA.out.then hkr.out⟩
theorem least_any (w : World) (v : Value) (M : Nat) (h : SetV w v M) (hS : Small M) (hT : Tz w) :
    Calls Tryz.prog 15 #[v] w fun e w' => ((M = 0 ∧ e = .returned (.tuple #[.int .i64 0, .bool false])) ∨ ∃ d : Nat, LeastS M d ∧ e = .returned (.tuple #[.int .i64 d, .bool true])) ∧ Kept (fun _ => False) w w' := by
  obtain ⟨x, hs, rfl, hw, hc, _⟩ := h.ex
  obtain ⟨a, c, rfl⟩ := hw.form
  exact least_at w M _ _ a c hs rfl rfl hw hc (hc.small hS) hT

set_option maxRecDepth 100000 in
set_option maxHeartbeats 1600000 in
theorem rsame_any (w : World) (v u : Value) (xs ys : List Int) (hv : Ints w v xs) (hu : Ints w u ys) :
    Calls Tryz.prog 20 #[v, u] w fun e w' => e = .returned (.bool (decide (xs = ys))) ∧ Kept (fun _ => False) w w' := by
  obtain ⟨a, c, rfl, hm, hx⟩ := ints_form hv
  obtain ⟨a', c', rfl, hm', hy⟩ := ints_form hu
  have HX := Lib.hid hx; have HY := Lib.hid hy
  clear hx hy hv hu
  have hm1 : xs.length ≤ 9223372036854775807 := by unfold maxLen at hm; omega
  obtain ⟨n, hn⟩ : ∃ n, n = xs.length := ⟨_, rfl⟩
  obtain ⟨m, hmm⟩ : ∃ m, m = ys.length := ⟨_, rfl⟩
  rw [← hn, ← hmm]
  by_cases hne : n = m
  · have hyl : ys.length = n := by omega
    subst hne
    clear hmm
    go_enter Tryz.func20, Tryz.ntmps20
    rw [← hn] at hm1
    have HN := Lib.hid hn; have HYL := Lib.hid hyl; clear hn hyl hm hm'
    go_wp2_with fail
    go_loop [14] (fun iv => ∃ k : Nat, k ≤ n ∧ iv = .int .i64 k ∧ Hid (xs.take k = ys.take k)) (fun iv => n - (intOf iv).toNat)
    case atStart => exact ⟨0, Nat.zero_le _, rfl, rfl⟩
    case round =>
      obtain ⟨k, hk, rfl, ht⟩ := hrel
      by_cases hlt : k < n
      · have hlt' : (k : Int) < (n : Int) := by omega
        have hk0 : (0 : Int) ≤ (k : Int) := by omega
        obtain ⟨g, off, rfl, hg, c1⟩ := HX.out k (by rw [← HN.out]; exact hlt)
        obtain ⟨g', off', rfl, hg', c2⟩ := HY.out k (by rw [HYL.out]; exact hlt)
        obtain ⟨x, hx⟩ : ∃ x, x = xs.getD k 0 := ⟨_, rfl⟩
        obtain ⟨y, hy⟩ : ∃ y, y = ys.getD k 0 := ⟨_, rfl⟩
        rw [← hx] at c1
        rw [← hy] at c2
        have HX1 := Lib.hid hx; have HY1 := Lib.hid hy; clear hx hy
        by_cases hxy : x = y
        · subst hxy
          go_wp2_with fail
          go_round
          case rel => exact ⟨k + 1, by omega, by go_num, take_eq_succ' ht.out (by rw [← HN.out]; exact hlt) (by rw [HYL.out]; exact hlt) (by rw [← HX1.out, ← HY1.out])⟩
          case measure => simp [intOf]; omega
        · have hb : ((x : Int) == (y : Int)) = false := by simp; omega
          have hb2 : ((x : Int) != (y : Int)) = true := by simp; omega
          go_wp2_with fail
          go_ret
          refine ⟨?_, Kept.refl _ _⟩
          have : decide (xs = ys) = false := by
            simp only [decide_eq_false_iff_not]
            intro e
            exact hxy (by rw [HX1.out, HY1.out, e])
          rw [this]; rfl
      · obtain rfl : k = n := by omega
        go_wp2_with fail
        go_ret
        refine ⟨?_, Kept.refl _ _⟩
        have h := ht.out
        rw [List.take_of_length_le (by rw [← HN.out]; exact Nat.le_refl _), List.take_of_length_le (by rw [HYL.out]; exact Nat.le_refl _)] at h
        rw [show decide (xs = ys) = true by simpa using h]; rfl
  · have hd : decide (xs = ys) = false := by
      simp only [decide_eq_false_iff_not]
      intro e
      exact hne (by rw [hn, hmm, e])
    rw [hd]
    have hb : ((n : Int) == (m : Int)) = false := by simp; omega
    have hb2 : ((n : Int) != (m : Int)) = true := by simp; omega
    clear hd hn hmm hm1 hm hm'
    go_enter Tryz.func20, Tryz.ntmps20
    go_wp2_with fail
    go_ret
    exact ⟨rfl, Kept.refl _ _⟩
end Go.Proofs.YteaagllpkcpedaaGreatDoor
