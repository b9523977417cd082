/-
  bits.Set.Compare: the least difference of two sets, and the order.
-/
import Derived.Test.YteaagllpkcpedaaDoorBMi
import Derived.Test.YteaagllpkcpedaaDoorBHas
import Derived.Test.YteaagllpkcpedaaDoorBytes
import Derived.Test.YteaagllpkcpedaaDoorBTz
namespace Go.Proofs.YteaagllpkcpedaaDoor
open Go.RowKit

/-- The least member of one set only. -/
structure LD (M K d : Nat) : Prop where
  ne : M.testBit d ≠ K.testBit d
  eq : ∀ i, i < d → M.testBit i = K.testBit i
theorem LD.uniq {M K d e : Nat} (h : LD M K d) (k : LD M K e) : d = e := by
  rcases Nat.lt_trichotomy d e with h1 | h1 | h1
  · exact absurd (k.eq d h1) h.ne
  · exact h1
  · exact absurd (h.eq e h1) k.ne
theorem wordN_at {M k i : Nat} (hi : i < 64) : (wordN M k).testBit i = M.testBit (64 * k + i) := by
  rw [wordN_bit]; simp [hi, Nat.add_comm]
theorem eq_words {M K N : Nat} (hM : M < 2 ^ (64 * N)) (hK : K < 2 ^ (64 * N)) (h : ∀ j, j < N → wordN M j = wordN K j) : M = K := by
  refine Nat.eq_of_testBit_eq fun i => ?_
  by_cases hi : i < 64 * N
  · have e : i = 64 * (i / 64) + i % 64 := by omega
    rw [e, ← wordN_at (by omega), ← wordN_at (by omega), h _ (by omega)]
  · have h1 : ∀ X, X < 2 ^ (64 * N) → X.testBit i = false := fun X hX => Nat.testBit_lt_two_pow (Nat.lt_of_lt_of_le hX (Nat.pow_le_pow_right (by omega) (by omega)))
    rw [h1 M hM, h1 K hK]
theorem ld_word {M K k : Nat} (hne : wordN M k ^^^ wordN K k ≠ 0) (hbe : ∀ j, j < k → wordN M j = wordN K j) :
    Lib.ctz 64 (wordN M k ^^^ wordN K k) < 64 ∧ LD M K (64 * k + Lib.ctz 64 (wordN M k ^^^ wordN K k)) := by
  have hy : wordN M k ^^^ wordN K k < 2 ^ 64 := Nat.xor_lt_two_pow (wordN_lt M k) (wordN_lt K k)
  have h0 : cutW (wordN M k ^^^ wordN K k) 0 ≠ 0 := by rw [cutW_zero]; exact hne
  have := cutW_low hy h0
  rw [cutW_zero] at this
  obtain ⟨_, h1, h2, h3, _⟩ := this
  generalize Lib.ctz 64 (wordN M k ^^^ wordN K k) = j at h1 h2 h3
  refine ⟨h1, ?_, fun i hi => ?_⟩
  · rw [Nat.testBit_xor, wordN_at h1, wordN_at h1] at h2
    intro e
    rw [e] at h2
    simp at h2
  · by_cases hk : i < 64 * k
    · have e : i = 64 * (i / 64) + i % 64 := by omega
      rw [e, ← wordN_at (by omega), ← wordN_at (by omega), hbe _ (by omega)]
    · have e : i = 64 * k + (i - 64 * k) := by omega
      have h4 := h3 (i - 64 * k) (by omega) (by omega)
      rw [Nat.testBit_xor, wordN_at (by omega), wordN_at (by omega), ← e] at h4
      cases h5 : M.testBit i <;> cases h6 : K.testBit i <;> rw [h5, h6] at h4 <;> simp at h4 ⊢
theorem xor_ne {a b : Nat} (h : a ^^^ b = 0) : a = b := by
  refine Nat.eq_of_testBit_eq fun i => ?_
  have := congrArg (fun n => n.testBit i) h
  simp only [Nat.testBit_xor, Nat.zero_testBit] at this
  cases h5 : a.testBit i <;> cases h6 : b.testBit i <;> rw [h5, h6] at this <;> simp at this ⊢
theorem ld_small {M K d : Nat} (h : LD M K d) (hM : Small M) (hK : Small K) : d ≤ 4095 := by
  rcases Nat.lt_or_ge 4095 d with h1 | h1
  · exfalso
    exact h.ne (by rw [Nat.testBit_lt_two_pow (hM d h1), Nat.testBit_lt_two_pow (hK d h1)])
  · exact h1

set_option maxRecDepth 100000 in
set_option maxHeartbeats 3200000 in
theorem ld_at (w : World) (M K lo1 lo2 n m : Nat) (a1 a2 : Option Addr) (c1 c2 : Nat) (hs ks : List Nat) (hl1 : lo1 = M % 2 ^ 64) (hl2 : lo2 = K % 2 ^ 64) (hn : hs.length = n) (hm : ks.length = m) (hw : Words w (.slice a1 n c1) hs) (hc : Canon hs (M / 2 ^ 64)) (hln : n ≤ 63)
    (hw2 : Words w (.slice a2 m c2) ks) (hc2 : Canon ks (K / 2 ^ 64)) (hlm : m ≤ 63) (hT : Tz w) :
    Calls Tryd.prog 46 #[.agg #[.int .u64 lo1, .slice a1 n c1], .agg #[.int .u64 lo2, .slice a2 m c2]] w fun e w' => ((M = K ∧ e = .returned (.tuple #[.int .i64 0, .bool false])) ∨ ∃ d : Nat, LD M K d ∧ e = .returned (.tuple #[.int .i64 d, .bool true])) ∧ Kept (fun _ => False) w w' := by
  have hbM : M < 2 ^ (64 * (1 + n)) := by
    have h1 := hc.lt
    rw [hn] at h1
    rw [show 64 * (1 + n) = 64 * n + 64 by omega, Nat.pow_add]
    exact (Nat.div_lt_iff_lt_mul (Nat.pow_pos (by omega))).1 h1
  have hbK : K < 2 ^ (64 * (1 + m)) := by
    have h1 := hc2.lt
    rw [hm] at h1
    rw [show 64 * (1 + m) = 64 * m + 64 by omega, Nat.pow_add]
    exact (Nat.div_lt_iff_lt_mul (Nat.pow_pos (by omega))).1 h1
  have hwd1 : ∀ k, wd lo1 hs k = wordN M k := fun k => by rw [hl1]; exact wd_word M hs hc k
  have hwd2 : ∀ k, wd lo2 ks k = wordN K k := fun k => by rw [hl2]; exact wd_word K ks hc2 k
  obtain ⟨wA, hwA⟩ : ∃ wA, wA = (w.alloc (.cells #[.int .u64 lo1, .slice a1 n c1] 28)).alloc (.cells #[.int .u64 lo2, .slice a2 m c2] 28) := ⟨_, rfl⟩
  have hkA : Kept (fun _ => False) w wA := by rw [hwA]; exact (Kept.alloc _ _ _).then (Kept.alloc _ _ _)
  have hbx : ∀ W, Kept (fun _ => False) wA W → W.cell? ⟨w.heap.size, 0, none⟩ = some (.int .u64 (lo1 : Int)) ∧ W.cell? ⟨w.heap.size, 1, none⟩ = some (.slice a1 n c1) ∧ W.cell? ⟨w.heap.size + 1, 0, none⟩ = some (.int .u64 (lo2 : Int)) ∧ W.cell? ⟨w.heap.size + 1, 1, none⟩ = some (.slice a2 m c2) := fun W hk => by
    have hsz : wA.heap.size = w.heap.size + 2 := by rw [hwA]; simp
    refine ⟨(hk.cell (p := ⟨w.heap.size, 0, none⟩) (by simp; omega) (fun h => h)).trans (by rw [hwA]; go_simp), (hk.cell (p := ⟨w.heap.size, 1, none⟩) (by simp; omega) (fun h => h)).trans (by rw [hwA]; go_simp), (hk.cell (p := ⟨w.heap.size + 1, 0, none⟩) (by simp; omega) (fun h => h)).trans (by rw [hwA]; go_simp), (hk.cell (p := ⟨w.heap.size + 1, 1, none⟩) (by simp; omega) (fun h => h)).trans (by rw [hwA]; go_simp)⟩
  have HBX := Lib.hid hbx
  have HW1 := Lib.hid (fun (k : Nat) (hk : k ≤ 1000) (W : World) (kw : Kept (fun _ => False) wA W) => (hwd1 k) ▸ word_any W lo1 (.slice a1 n c1) hs k (hw.kept (hkA.then kw) (fun _ _ h => h)) (by omega))
  have HW2 := Lib.hid (fun (k : Nat) (hk : k ≤ 1000) (W : World) (kw : Kept (fun _ => False) wA W) => (hwd2 k) ▸ word_any W lo2 (.slice a2 m c2) ks k (hw2.kept (hkA.then kw) (fun _ _ h => h)) (by omega))
  have HT := Lib.hid (hT.kept hkA (fun h => h)); have HKA := Lib.hid hkA; have HWA := Lib.hid hwA; have HBM := Lib.hid hbM; have HBK := Lib.hid hbK
  clear hbM hbK hwd1 hwd2 hkA hbx hw hw2 hc hc2 hl1 hl2 hn hm hT hwA
  obtain ⟨mx, hmx, hmx1, hmx2⟩ : ∃ mx : Nat, ((n ≤ m ∧ mx = 1 + m) ∨ (m < n ∧ mx = 1 + n)) ∧ 1 + n ≤ mx ∧ 1 + m ≤ mx := by
    rcases Nat.lt_or_ge m n with h | h
    · exact ⟨1 + n, Or.inr ⟨h, rfl⟩, by omega, by omega⟩
    · exact ⟨1 + m, Or.inl ⟨h, rfl⟩, by omega, by omega⟩
  have hmx3 : mx ≤ 64 := by omega
  have HEQ : Hid ((∀ j, j < mx → wordN M j = wordN K j) → M = K) := fun h => eq_words (Nat.lt_of_lt_of_le HBM.out (Nat.pow_le_pow_right (by omega) (by omega))) (Nat.lt_of_lt_of_le HBK.out (Nat.pow_le_pow_right (by omega) (by omega))) h
  have hmaxi : (1 : Int) + max (n : Int) (m : Int) = (mx : Int) := by omega
  clear hmx
  go_enter Tryd.func46, Tryd.ntmps46
  go_wp2_with fail
  rw [← HWA.out]
  have D5 := Lib.hid ((Kept.refl (fun _ => False) wA).drew)
  obtain ⟨b0, b1, b2, b3⟩ := HBX.out wA (Kept.refl _ _)
  go_region_held3 (fun w' => w'.cell? ⟨w.heap.size, 0, none⟩ = some (.int .u64 (lo1 : Int)) ∧ w'.cell? ⟨w.heap.size, 1, none⟩ = some (.slice a1 n c1) ∧ w'.cell? ⟨w.heap.size + 1, 0, none⟩ = some (.int .u64 (lo2 : Int)) ∧ w'.cell? ⟨w.heap.size + 1, 1, none⟩ = some (.slice a2 m c2))
    (first | exact HBX.out _ D7.out | exact HBX.out _ D6.out | exact HBX.out _ D5.out)
    ((go_at_call 57; (first | (with_reducible refine (words_any _ lo1 n c1 a1 (by omega)).mono ?_) | (with_reducible refine (words_any _ lo2 m c2 a2 (by omega)).mono ?_)); rintro e w6 ⟨rfl, k6⟩; (first | (have D7 := Lib.hid (D6.out.then k6)) | (have D6 := Lib.hid (D5.out.then k6))); clear k6))
  all_goals
    clear b0 b1 b2 b3 hmaxi
    go_wp2_with fail
    go_loopw [13] (fun iv wr => ∃ k : Nat, k ≤ mx ∧ iv = .int .i64 k ∧ (∀ j, j < k → wordN M j = wordN K j) ∧ Hid (Kept (fun _ => False) wA wr)) (fun iv _ => mx - (intOf iv).toNat)
    case atStart => exact ⟨0, Nat.zero_le _, rfl, (fun j hj => by omega), D7⟩
    case round =>
      obtain ⟨k, hk, rfl, hbe, hkr⟩ := hrel
      clear D5 D6 D7
      have HBE := Lib.hid hbe
      clear hbe
      by_cases hlt : k < mx
      · have hlt' : (k : Int) < (mx : Int) := by omega
        obtain ⟨b0, b1, b2, b3⟩ := HBX.out wr hkr.out
        have hx64 : bits .xor .u64 (wordN M k : Int) (wordN K k : Int) = ((wordN M k ^^^ wordN K k : Nat) : Int) := u64_xor_nat _ _ (wordN_lt _ _) (wordN_lt _ _)
        have HA1 := Lib.hid (HW1.out k (by omega)); have HA2 := Lib.hid (HW2.out k (by omega))
        have hxl : wordN M k ^^^ wordN K k < 18446744073709551616 := Nat.xor_lt_two_pow (n := 64) (wordN_lt M k) (wordN_lt K k)
        have HNX : Hid (wordN M k ^^^ wordN K k = 0 → wordN M k = wordN K k) := xor_ne
        have HLD : Hid (wordN M k ^^^ wordN K k ≠ 0 → Lib.ctz 64 (wordN M k ^^^ wordN K k) < 64 ∧ LD M K (64 * k + Lib.ctz 64 (wordN M k ^^^ wordN K k))) := fun h => ld_word h HBE.out
        generalize wordN M k ^^^ wordN K k = x at hx64 hxl HNX HLD
        have HY : Hid (wordN M k = wordN M k) := rfl
        generalize hy1 : wordN M k = y1 at hx64 HA1 HNX
        generalize hy2 : wordN K k = y2 at hx64 HA2 HNX
        have HY1 := Lib.hid hy1; have HY2 := Lib.hid hy2
        clear hy1 hy2 HY
        have D5 := Lib.hid (hkr.out.drew)
        by_cases hx0 : x = 0
        · have hxb : ((x : Int) != 0) = false := by simp [hx0]
          go_wp2_with fail
          go_region_held3 (fun w' => w'.cell? ⟨w.heap.size, 0, none⟩ = some (.int .u64 (lo1 : Int)) ∧ w'.cell? ⟨w.heap.size, 1, none⟩ = some (.slice a1 n c1) ∧ w'.cell? ⟨w.heap.size + 1, 0, none⟩ = some (.int .u64 (lo2 : Int)) ∧ w'.cell? ⟨w.heap.size + 1, 1, none⟩ = some (.slice a2 m c2))
            (first | exact HBX.out _ D7.out | exact HBX.out _ D6.out | exact HBX.out _ D5.out)
            ((go_at_call 45; (first | (with_reducible refine (HA1.out _ D6.out).mono ?_) | (with_reducible refine (HA2.out _ D6.out).mono ?_) | (with_reducible refine (HA1.out _ D5.out).mono ?_) | (with_reducible refine (HA2.out _ D5.out).mono ?_)); rintro e w6 ⟨rfl, k6⟩; (first | (have D7 := Lib.hid (D6.out.then k6)) | (have D6 := Lib.hid (D5.out.then k6))); clear k6))
          all_goals
            clear b0 b1 b2 b3
            go_wp2_with fail
            go_roundw
            case rel => exact ⟨k + 1, by omega, by go_num, (fun j hj => by
              by_cases hjk : j < k
              · exact HBE.out j hjk
              · have : j = k := by omega
                subst this
                rw [HY1.out, HY2.out]; exact HNX.out hx0), D7⟩
            case measure => simp [intOf]; omega
        · have hxb : ((x : Int) != 0) = true := by simp; omega
          obtain ⟨hz, hld⟩ := HLD.out hx0
          have HL := Lib.hid (fun (W : World) (h : Tz W) => leastIn_any x k hxl (by omega) (by omega) W h)
          generalize Lib.ctz 64 x = z at hz hld HL
          have HLDD := Lib.hid hld
          clear hld HLD
          go_wp2_with fail
          go_region_held3 (fun w' => w'.cell? ⟨w.heap.size, 0, none⟩ = some (.int .u64 (lo1 : Int)) ∧ w'.cell? ⟨w.heap.size, 1, none⟩ = some (.slice a1 n c1) ∧ w'.cell? ⟨w.heap.size + 1, 0, none⟩ = some (.int .u64 (lo2 : Int)) ∧ w'.cell? ⟨w.heap.size + 1, 1, none⟩ = some (.slice a2 m c2))
            (first | exact HBX.out _ D7.out | exact HBX.out _ D6.out | exact HBX.out _ D5.out)
            ((go_at_call 45; (first | (with_reducible refine (HA1.out _ D6.out).mono ?_) | (with_reducible refine (HA2.out _ D6.out).mono ?_) | (with_reducible refine (HA1.out _ D5.out).mono ?_) | (with_reducible refine (HA2.out _ D5.out).mono ?_)); rintro e w6 ⟨rfl, k6⟩; (first | (have D7 := Lib.hid (D6.out.then k6)) | (have D6 := Lib.hid (D5.out.then k6))); clear k6))
          all_goals
            clear b0 b1 b2 b3
            go_wp2_with fail
            refine (HL.out _ (HT.out.kept D7.out (fun h => h))).mono ?_
            rintro e w8 ⟨rfl, rfl⟩
            go_wp2_with fail
            go_ret2
            exact ⟨Or.inr ⟨_, HLDD.out, rfl⟩, HKA.out.then D7.out⟩
      · have hkx : k = mx := by omega
        have hnl : ¬ (k : Int) < (mx : Int) := by omega
        have hMK := HEQ.out (fun j hj => HBE.out j (by omega))
        have HMK := Lib.hid hMK
        clear hMK hkx
        go_wp2_with fail
        go_ret2
        exact ⟨Or.inl ⟨HMK.out, rfl⟩, HKA.out.then hkr.out⟩
end Go.Proofs.YteaagllpkcpedaaDoor
