import Derived.Test.YtjglnpijngdpkaaDoorGA
/-
  bits.Below: the numbers below n.
-/
namespace Go.Proofs.YtjglnpijngdpkaaDoor
open Go.RowKit

/-- What the words of the numbers below m are. -/
structure OnesAt (B m n : Nat) : Prop where
  lt : B < 2 ^ (64 * n)
  full : ∀ k, 64 * (k + 1) ≤ m → wordN B k = 18446744073709551615
  part : ∀ k, 64 * k ≤ m → m < 64 * (k + 1) → wordN B k = 2 ^ (m - 64 * k) - 1
theorem onesAt (m n : Nat) (h : m ≤ 64 * n) : OnesAt (2 ^ m - 1) m n :=
  ⟨Nat.lt_of_lt_of_le (Nat.sub_lt (Nat.pow_pos (by omega)) (by omega)) (Nat.pow_le_pow_right (by omega) h), fun k => ones_full m k, fun k => ones_part m k⟩
theorem onesAt' (m m' n : Nat) (e : m' = m) (h : m' ≤ 64 * n) : OnesAt (2 ^ m - 1) m' n := by
  subst e
  exact onesAt _ _ h
def onesL (n k : Nat) : List Nat := mixG (fun _ => 18446744073709551615) (fun _ => 0) n k
theorem zerosL (n : Nat) : List.replicate n 0 = onesL n 0 := by
  unfold onesL
  rw [mixG_zero]
  exact List.ext_getElem (by simp) (by intros; simp)
theorem onesL_end (n : Nat) : onesL n n = (List.range n).map fun _ => 18446744073709551615 := mixG_end _ _ _ _ (fun j h1 h2 => by omega)
theorem onesL_even {B m n : Nat} (h : OnesAt B m n) (hm : 64 * n ≤ m) : onesL n n = wl B n := by
  rw [onesL_end, wl_word]
  refine List.map_congr_left fun k hk => ?_
  have : k < n := by simpa using hk
  exact (h.full k (by omega)).symm
theorem onesL_odd {B m n q : Nat} (h : OnesAt B m n) (hq : n = q + 1) (h1 : 64 * q ≤ m) (h2 : m < 64 * (q + 1)) : (onesL n n).set q (2 ^ (m - 64 * q) - 1) = wl B n := by
  rw [onesL_end, wl_word]
  refine List.ext_getElem (by simp) fun i a b => ?_
  have hi : i < n := by simpa using b
  rw [List.getElem_set]
  simp only [List.getElem_map, List.getElem_range]
  by_cases e : q = i
  · subst e; rw [if_pos rfl, h.part q h1 h2]
  · rw [if_neg e, h.full i (by omega)]

set_option maxRecDepth 100000 in
set_option maxHeartbeats 3200000 in
theorem below_neg (w : World) (n0 : Int) (h1 : n0 < 0) :
    Calls Tryd.prog 33 #[.int .i64 n0] w fun e w' => e = .returned (.agg #[.int .u64 0, .slice none 0 0]) ∧ Kept (fun _ => False) w w' := by
  obtain ⟨i0, hi, hz0, hz1, hz2⟩ := info_parts info_u64
  obtain ⟨n, hn⟩ : ∃ n : Nat, n = (0 + 63) / 64 := ⟨_, rfl⟩
  have hn64 : n ≤ 64 := by omega
  have hnw : (((-1)) + 64) / 64 = (n : Int) := by omega
  have HN := Lib.hid hn; have HNW := Lib.hid hnw
  clear hn hnw
  go_enter Tryd.func33, Tryd.ntmps33
  go_wp2_with fail
  refine (wordsFor_any _ ((-1)) (by omega) (by omega)).mono ?_
  rintro e w' ⟨rfl, rfl⟩
  rw [HNW.out]
  go_wp2_with (refine wpList_make_full _ rfl _ _ _ rfl w.heap.size 54 i0 _ 1 Tryd.underlying55 hi hz0 hz1 _ _ _ _ n rfl rfl rfl rfl (by rw [hz2]; omega) (by unfold maxLen; omega) (by simp) ?_)
  intro wA hownA hgrowA
  rw [wv_nil, wl_zero] at hownA
  have e00 : List.replicate n 0 = onesL n 0 := zerosL n
  rw [e00] at hownA
  have hkA : Kept (fun _ => False) w wA := (Kept.alloc (fun _ => False) w _).trans (Kept.ofGrown (S := fun _ => False) hgrowA (fun k e => by cases e)) (fun _ _ h => h) (fun _ _ h => h)
  have r0 : wA.cell? ⟨w.heap.size, 0, none⟩ = some (.int .u64 0) := (hgrowA.cell_far ⟨w.heap.size, 0, none⟩ (by simp) (by simp)).trans (by go_simp)
  have r1 : wA.cell? ⟨w.heap.size, 1, none⟩ = some (.slice none 0 0) := (hgrowA.cell_far ⟨w.heap.size, 1, none⟩ (by simp) (by simp)).trans (by go_simp)
  have rf : ∀ i, wA.frozen? ⟨w.heap.size, i, none⟩ = false := fun i => (hgrowA.frozen_far ⟨w.heap.size, i, none⟩ (by simp) (by simp)).trans (by go_simp)
  have hAs : w.heap.size + 1 < wA.heap.size := by
    obtain ⟨_, hh⟩ := hownA
    rcases hh with ⟨h, _⟩ | ⟨g', cap', cur, h, _, hg', _⟩
    · cases h
    · cases h; exact (Array.getElem?_eq_some_iff.1 hg').1
  have RF := Lib.hid rf; clear rf
  have R0 := Lib.hid r0; clear r0
  have R1 := Lib.hid r1; clear r1
  have HOA := Lib.hid hownA; clear hownA
  clear hgrowA e00
  go_wp2_with fail
  go_loopw [14] (fun iv wr => ∃ k : Nat, k ≤ n ∧ iv = .int .i64 k ∧ Hid (wr.ownsRow w.heap.size 54 1 (.slice (some ⟨w.heap.size + 1, 0, none⟩) n n) n (wv (onesL n k))) ∧ Kept (fun k => k = w.heap.size + 1) wA wr) (fun iv _ => n - (intOf iv).toNat)
  case atStart => exact ⟨0, Nat.zero_le _, rfl, HOA.out, Kept.refl _ _⟩
  case round =>
    obtain ⟨k, hk, rfl, ho, hkr⟩ := hrel
    by_cases hlt : k < n
    · have hlt' : (k : Int) < (n : Int) := by omega
      have hk0 : (0 : Int) ≤ (k : Int) := by omega
      have cq : wr.cell? ⟨w.heap.size + 1, k, none⟩ = some (.int .u64 0) := by
        rw [ho.out.cellAt k (by omega), wv_getD _ _ (by unfold onesL; rw [mixG_length]; exact hlt)]
        unfold onesL; rw [mixG_getD _ _ _ _ hlt]; rfl
      have fq : wr.frozen? ⟨w.heap.size + 1, k, none⟩ = false := ho.out.frozenAt k
      have hst := ho.out.stored k (.int .u64 (18446744073709551615 : Nat))
      rw [wv_set, show (onesL n k).set k 18446744073709551615 = onesL n (k + 1) from mixG_set _ _ n k hlt] at hst
      have HST := Lib.hid hst.1
      clear hst
      go_wp2
      go_roundw
      case rel => exact ⟨k + 1, by omega, by go_num, HST.out, hkr.trans (Kept.setCell (fun k => k = w.heap.size + 1) _ _ _ rfl) (fun _ _ h => h) (fun _ _ h => h)⟩
      case measure => simp [intOf]; omega
    · have hkn : n = k := by omega
      subst hkn
      have c0 : wr.cell? ⟨w.heap.size, 0, none⟩ = some (.int .u64 0) := (hkr.cell (p := ⟨w.heap.size, 0, none⟩) (by simp; omega) (by simp)).trans R0.out
      have c1 : wr.cell? ⟨w.heap.size, 1, none⟩ = some (.slice none 0 0) := (hkr.cell (p := ⟨w.heap.size, 1, none⟩) (by simp; omega) (by simp)).trans R1.out
      have f0 : wr.frozen? ⟨w.heap.size, 0, none⟩ = false := (hkr.frozen (p := ⟨w.heap.size, 0, none⟩) (by simp; omega) (by simp)).trans (RF.out 0)
      have f1 : wr.frozen? ⟨w.heap.size, 1, none⟩ = false := (hkr.frozen (p := ⟨w.heap.size, 1, none⟩) (by simp; omega) (by simp)).trans (RF.out 1)
      have hwr0 : w.heap.size + 1 < wr.heap.size := Nat.lt_of_lt_of_le hAs hkr.size
      have hkw : Kept (fun _ => False) w wr := hkA.trans hkr (fun _ _ h => h) (fun i hi e => by omega)
      have HKW := Lib.hid hkw
      have C0 := Lib.hid c0; have C1 := Lib.hid c1; have F0 := Lib.hid f0; have F1 := Lib.hid f1
      clear c0 c1 f0 f1 ho hkr HOA hkw
      obtain ⟨rfl⟩ : n = 0 := by have := HN.out; omega
      go_wp2_with fail
      refine (pack_nil _ _ _).mono ?_
      rintro e w1 ⟨rfl, hk1⟩
      have c0 := (hk1.cell (p := ⟨w.heap.size, 0, none⟩) (by simp; omega) (by simp)).trans C0.out
      have c1 := (hk1.cell (p := ⟨w.heap.size, 1, none⟩) (by simp; omega) (by simp)).trans C1.out
      have f0 := (hk1.frozen (p := ⟨w.heap.size, 0, none⟩) (by simp; omega) (by simp)).trans F0.out
      have f1 := (hk1.frozen (p := ⟨w.heap.size, 1, none⟩) (by simp; omega) (by simp)).trans F1.out
      have HK1 := Lib.hid hk1
      clear hk1
      go_wp2
      refine bodyPost_ret (v := .agg #[.int .u64 0, .slice none 0 0]) (by simp [results, Tryd.results33, go_sem, c0, c1]) rfl ⟨rfl, ?_⟩
      exact (HKW.out.then HK1.out).trans ((Kept.setCell (fun k => k = w.heap.size) _ ⟨w.heap.size, 0, none⟩ _ rfl).trans (Kept.setCell (fun k => k = w.heap.size) _ ⟨w.heap.size, 1, none⟩ _ rfl) (fun _ _ h => h) (fun _ _ h => h)) (fun _ _ h => h) (fun i hi e => by omega)

set_option maxRecDepth 100000 in
set_option maxHeartbeats 3200000 in
theorem below_nil (w : World)  :
    Calls Tryd.prog 33 #[.int .i64 0] w fun e w' => e = .returned (.agg #[.int .u64 0, .slice none 0 0]) ∧ Kept (fun _ => False) w w' := by
  obtain ⟨i0, hi, hz0, hz1, hz2⟩ := info_parts info_u64
  obtain ⟨n, hn⟩ : ∃ n : Nat, n = (0 + 63) / 64 := ⟨_, rfl⟩
  have hn64 : n ≤ 64 := by omega
  have hnw : (((-1)) + 64) / 64 = (n : Int) := by omega
  have HN := Lib.hid hn; have HNW := Lib.hid hnw
  clear hn hnw
  go_enter Tryd.func33, Tryd.ntmps33
  go_wp2_with fail
  refine (wordsFor_any _ ((-1)) (by omega) (by omega)).mono ?_
  rintro e w' ⟨rfl, rfl⟩
  rw [HNW.out]
  go_wp2_with (refine wpList_make_full _ rfl _ _ _ rfl w.heap.size 54 i0 _ 1 Tryd.underlying55 hi hz0 hz1 _ _ _ _ n rfl rfl rfl rfl (by rw [hz2]; omega) (by unfold maxLen; omega) (by simp) ?_)
  intro wA hownA hgrowA
  rw [wv_nil, wl_zero] at hownA
  have e00 : List.replicate n 0 = onesL n 0 := zerosL n
  rw [e00] at hownA
  have hkA : Kept (fun _ => False) w wA := (Kept.alloc (fun _ => False) w _).trans (Kept.ofGrown (S := fun _ => False) hgrowA (fun k e => by cases e)) (fun _ _ h => h) (fun _ _ h => h)
  have r0 : wA.cell? ⟨w.heap.size, 0, none⟩ = some (.int .u64 0) := (hgrowA.cell_far ⟨w.heap.size, 0, none⟩ (by simp) (by simp)).trans (by go_simp)
  have r1 : wA.cell? ⟨w.heap.size, 1, none⟩ = some (.slice none 0 0) := (hgrowA.cell_far ⟨w.heap.size, 1, none⟩ (by simp) (by simp)).trans (by go_simp)
  have rf : ∀ i, wA.frozen? ⟨w.heap.size, i, none⟩ = false := fun i => (hgrowA.frozen_far ⟨w.heap.size, i, none⟩ (by simp) (by simp)).trans (by go_simp)
  have hAs : w.heap.size + 1 < wA.heap.size := by
    obtain ⟨_, hh⟩ := hownA
    rcases hh with ⟨h, _⟩ | ⟨g', cap', cur, h, _, hg', _⟩
    · cases h
    · cases h; exact (Array.getElem?_eq_some_iff.1 hg').1
  have RF := Lib.hid rf; clear rf
  have R0 := Lib.hid r0; clear r0
  have R1 := Lib.hid r1; clear r1
  have HOA := Lib.hid hownA; clear hownA
  clear hgrowA e00
  go_wp2_with fail
  go_loopw [14] (fun iv wr => ∃ k : Nat, k ≤ n ∧ iv = .int .i64 k ∧ Hid (wr.ownsRow w.heap.size 54 1 (.slice (some ⟨w.heap.size + 1, 0, none⟩) n n) n (wv (onesL n k))) ∧ Kept (fun k => k = w.heap.size + 1) wA wr) (fun iv _ => n - (intOf iv).toNat)
  case atStart => exact ⟨0, Nat.zero_le _, rfl, HOA.out, Kept.refl _ _⟩
  case round =>
    obtain ⟨k, hk, rfl, ho, hkr⟩ := hrel
    by_cases hlt : k < n
    · have hlt' : (k : Int) < (n : Int) := by omega
      have hk0 : (0 : Int) ≤ (k : Int) := by omega
      have cq : wr.cell? ⟨w.heap.size + 1, k, none⟩ = some (.int .u64 0) := by
        rw [ho.out.cellAt k (by omega), wv_getD _ _ (by unfold onesL; rw [mixG_length]; exact hlt)]
        unfold onesL; rw [mixG_getD _ _ _ _ hlt]; rfl
      have fq : wr.frozen? ⟨w.heap.size + 1, k, none⟩ = false := ho.out.frozenAt k
      have hst := ho.out.stored k (.int .u64 (18446744073709551615 : Nat))
      rw [wv_set, show (onesL n k).set k 18446744073709551615 = onesL n (k + 1) from mixG_set _ _ n k hlt] at hst
      have HST := Lib.hid hst.1
      clear hst
      go_wp2
      go_roundw
      case rel => exact ⟨k + 1, by omega, by go_num, HST.out, hkr.trans (Kept.setCell (fun k => k = w.heap.size + 1) _ _ _ rfl) (fun _ _ h => h) (fun _ _ h => h)⟩
      case measure => simp [intOf]; omega
    · have hkn : n = k := by omega
      subst hkn
      have c0 : wr.cell? ⟨w.heap.size, 0, none⟩ = some (.int .u64 0) := (hkr.cell (p := ⟨w.heap.size, 0, none⟩) (by simp; omega) (by simp)).trans R0.out
      have c1 : wr.cell? ⟨w.heap.size, 1, none⟩ = some (.slice none 0 0) := (hkr.cell (p := ⟨w.heap.size, 1, none⟩) (by simp; omega) (by simp)).trans R1.out
      have f0 : wr.frozen? ⟨w.heap.size, 0, none⟩ = false := (hkr.frozen (p := ⟨w.heap.size, 0, none⟩) (by simp; omega) (by simp)).trans (RF.out 0)
      have f1 : wr.frozen? ⟨w.heap.size, 1, none⟩ = false := (hkr.frozen (p := ⟨w.heap.size, 1, none⟩) (by simp; omega) (by simp)).trans (RF.out 1)
      have hwr0 : w.heap.size + 1 < wr.heap.size := Nat.lt_of_lt_of_le hAs hkr.size
      have hkw : Kept (fun _ => False) w wr := hkA.trans hkr (fun _ _ h => h) (fun i hi e => by omega)
      have HKW := Lib.hid hkw
      have C0 := Lib.hid c0; have C1 := Lib.hid c1; have F0 := Lib.hid f0; have F1 := Lib.hid f1
      clear c0 c1 f0 f1 ho hkr HOA hkw
      obtain ⟨rfl⟩ : n = 0 := by have := HN.out; omega
      go_wp2_with fail
      refine (pack_nil _ _ _).mono ?_
      rintro e w1 ⟨rfl, hk1⟩
      have c0 := (hk1.cell (p := ⟨w.heap.size, 0, none⟩) (by simp; omega) (by simp)).trans C0.out
      have c1 := (hk1.cell (p := ⟨w.heap.size, 1, none⟩) (by simp; omega) (by simp)).trans C1.out
      have f0 := (hk1.frozen (p := ⟨w.heap.size, 0, none⟩) (by simp; omega) (by simp)).trans F0.out
      have f1 := (hk1.frozen (p := ⟨w.heap.size, 1, none⟩) (by simp; omega) (by simp)).trans F1.out
      have HK1 := Lib.hid hk1
      clear hk1
      go_wp2
      refine bodyPost_ret (v := .agg #[.int .u64 0, .slice none 0 0]) (by simp [results, Tryd.results33, go_sem, c0, c1]) rfl ⟨rfl, ?_⟩
      exact (HKW.out.then HK1.out).trans ((Kept.setCell (fun k => k = w.heap.size) _ ⟨w.heap.size, 0, none⟩ _ rfl).trans (Kept.setCell (fun k => k = w.heap.size) _ ⟨w.heap.size, 1, none⟩ _ rfl) (fun _ _ h => h) (fun _ _ h => h)) (fun _ _ h => h) (fun i hi e => by omega)

set_option maxRecDepth 100000 in
set_option maxHeartbeats 3200000 in
theorem below_mid (w : World) (m : Nat) (h1 : (1 : Int) ≤ (m : Int)) (h2 : (m : Int) ≤ 4096) (HM : Hid (m = clampN (m : Int))) :
    Calls Tryd.prog 33 #[.int .i64 m] w fun e w' => ∃ v, e = .returned v ∧ SetV w' v (2 ^ clampN (m : Int) - 1) ∧ (∀ k, setBlk v k → w.heap.size ≤ k) ∧ Kept (fun _ => False) w w' := by
  obtain ⟨i0, hi, hz0, hz1, hz2⟩ := info_parts info_u64
  obtain ⟨n, hn⟩ : ∃ n : Nat, n = (m + 63) / 64 := ⟨_, rfl⟩
  have hn64 : n ≤ 64 := by omega
  have hn1 : 1 ≤ n := by omega
  have hnw : (((m : Int) - 1) + 64) / 64 = (n : Int) := by omega
  have hBB : ∃ B, B = 2 ^ clampN (m : Int) - 1 ∧ OnesAt B m n := ⟨2 ^ clampN (m : Int) - 1, rfl, onesAt' _ m n HM.out (by omega)⟩
  obtain ⟨B, hB, hon⟩ := hBB
  rw [← hB]
  have HON := Lib.hid hon; have HN := Lib.hid hn; have HNW := Lib.hid hnw
  clear hB hon hn HM hnw
  go_enter Tryd.func33, Tryd.ntmps33
  go_wp2_with fail
  refine (wordsFor_any _ ((m : Int) - 1) (by omega) (by omega)).mono ?_
  rintro e w' ⟨rfl, rfl⟩
  rw [HNW.out]
  go_wp2_with (refine wpList_make_full _ rfl _ _ _ rfl w.heap.size 54 i0 _ 1 Tryd.underlying55 hi hz0 hz1 _ _ _ _ n rfl rfl rfl rfl (by rw [hz2]; omega) (by unfold maxLen; omega) (by simp) ?_)
  intro wA hownA hgrowA
  rw [wv_nil, wl_zero] at hownA
  have e00 : List.replicate n 0 = onesL n 0 := zerosL n
  rw [e00] at hownA
  have hkA : Kept (fun _ => False) w wA := (Kept.alloc (fun _ => False) w _).trans (Kept.ofGrown (S := fun _ => False) hgrowA (fun k e => by cases e)) (fun _ _ h => h) (fun _ _ h => h)
  have r0 : wA.cell? ⟨w.heap.size, 0, none⟩ = some (.int .u64 0) := (hgrowA.cell_far ⟨w.heap.size, 0, none⟩ (by simp) (by simp)).trans (by go_simp)
  have r1 : wA.cell? ⟨w.heap.size, 1, none⟩ = some (.slice none 0 0) := (hgrowA.cell_far ⟨w.heap.size, 1, none⟩ (by simp) (by simp)).trans (by go_simp)
  have rf : ∀ i, wA.frozen? ⟨w.heap.size, i, none⟩ = false := fun i => (hgrowA.frozen_far ⟨w.heap.size, i, none⟩ (by simp) (by simp)).trans (by go_simp)
  have hAs : w.heap.size + 1 < wA.heap.size := by
    obtain ⟨_, hh⟩ := hownA
    rcases hh with ⟨h, _⟩ | ⟨g', cap', cur, h, _, hg', _⟩
    · cases h
    · cases h; exact (Array.getElem?_eq_some_iff.1 hg').1
  have RF := Lib.hid rf; clear rf
  have R0 := Lib.hid r0; clear r0
  have R1 := Lib.hid r1; clear r1
  have HOA := Lib.hid hownA; clear hownA
  clear hgrowA e00
  go_wp2_with fail
  go_loopw [14] (fun iv wr => ∃ k : Nat, k ≤ n ∧ iv = .int .i64 k ∧ Hid (wr.ownsRow w.heap.size 54 1 (.slice (some ⟨w.heap.size + 1, 0, none⟩) n n) n (wv (onesL n k))) ∧ Kept (fun k => k = w.heap.size + 1) wA wr) (fun iv _ => n - (intOf iv).toNat)
  case atStart => exact ⟨0, Nat.zero_le _, rfl, HOA.out, Kept.refl _ _⟩
  case round =>
    obtain ⟨k, hk, rfl, ho, hkr⟩ := hrel
    by_cases hlt : k < n
    · have hlt' : (k : Int) < (n : Int) := by omega
      have hk0 : (0 : Int) ≤ (k : Int) := by omega
      have cq : wr.cell? ⟨w.heap.size + 1, k, none⟩ = some (.int .u64 0) := by
        rw [ho.out.cellAt k (by omega), wv_getD _ _ (by unfold onesL; rw [mixG_length]; exact hlt)]
        unfold onesL; rw [mixG_getD _ _ _ _ hlt]; rfl
      have fq : wr.frozen? ⟨w.heap.size + 1, k, none⟩ = false := ho.out.frozenAt k
      have hst := ho.out.stored k (.int .u64 (18446744073709551615 : Nat))
      rw [wv_set, show (onesL n k).set k 18446744073709551615 = onesL n (k + 1) from mixG_set _ _ n k hlt] at hst
      have HST := Lib.hid hst.1
      clear hst
      go_wp2
      go_roundw
      case rel => exact ⟨k + 1, by omega, by go_num, HST.out, hkr.trans (Kept.setCell (fun k => k = w.heap.size + 1) _ _ _ rfl) (fun _ _ h => h) (fun _ _ h => h)⟩
      case measure => simp [intOf]; omega
    · have hkn : n = k := by omega
      subst hkn
      have c0 : wr.cell? ⟨w.heap.size, 0, none⟩ = some (.int .u64 0) := (hkr.cell (p := ⟨w.heap.size, 0, none⟩) (by simp; omega) (by simp)).trans R0.out
      have c1 : wr.cell? ⟨w.heap.size, 1, none⟩ = some (.slice none 0 0) := (hkr.cell (p := ⟨w.heap.size, 1, none⟩) (by simp; omega) (by simp)).trans R1.out
      have f0 : wr.frozen? ⟨w.heap.size, 0, none⟩ = false := (hkr.frozen (p := ⟨w.heap.size, 0, none⟩) (by simp; omega) (by simp)).trans (RF.out 0)
      have f1 : wr.frozen? ⟨w.heap.size, 1, none⟩ = false := (hkr.frozen (p := ⟨w.heap.size, 1, none⟩) (by simp; omega) (by simp)).trans (RF.out 1)
      have hwr0 : w.heap.size + 1 < wr.heap.size := Nat.lt_of_lt_of_le hAs hkr.size
      have hkw : Kept (fun _ => False) w wr := hkA.trans hkr (fun _ _ h => h) (fun i hi e => by omega)
      by_cases hr : m % 64 = 0
      · have hrt : ((m : Int) % 64 == 0) = true := by simp; omega
        have hrt2 : ((m : Int) % 64 != 0) = false := by simp; omega
        obtain ⟨W2, hW2⟩ : ∃ W, W = wr := ⟨_, rfl⟩
        rw [← hW2] at ho c0 c1 f0 f1 hwr0 hkw ⊢
        have hwr := hwr0
        have hev : onesL n n = wl B n := onesL_even HON.out (by have := HN.out; omega)
        rw [hev] at ho
        have HO2 := Lib.hid ho.out; have HKW := Lib.hid hkw
        have C0 := Lib.hid c0; have C1 := Lib.hid c1; have F0 := Lib.hid f0; have F1 := Lib.hid f1
        clear c0 c1 f0 f1 ho hev hW2 hkr HOA hkw
        clear hr
        have hM := HON.out.lt
        have HMK := Lib.hid hM; clear hM
        obtain ⟨m1, hm1⟩ : ∃ m, n = m + 1 := ⟨n - 1, by omega⟩
        obtain ⟨lo, hlo⟩ : ∃ lo : Nat, lo = (wl B n).getD 0 0 := ⟨_, rfl⟩
        have hcells : ∀ i, i < (wl B n).length → W2.cell? ⟨w.heap.size + 1, 0 + i, none⟩ = some (.int .u64 ((wl B n).getD i 0 : Nat)) := fun i hi => by
          rw [Nat.zero_add, HO2.out.cellAt i (by rw [wl_length] at hi; omega), wv_getD _ _ hi]
        have HP := Lib.hid (pack_at W2 (w.heap.size + 1) 0 n m1 (wl B n) lo (by rw [wl_length, hm1]) (by omega) (by unfold maxLen; omega) hwr hcells hlo)
        clear hcells
        have HLO := Lib.hid hlo; clear hlo
        rw [← hm1] at HP
        have HMM := Lib.hid hm1; clear hm1
        go_wp2_with fail
        refine HP.out.mono ?_
        rintro e w1 ⟨hv, rfl, hpr, hk1⟩
        have c0 := (hk1.cell (p := ⟨w.heap.size, 0, none⟩) (by simp; omega) (by simp)).trans C0.out
        have c1 := (hk1.cell (p := ⟨w.heap.size, 1, none⟩) (by simp; omega) (by simp)).trans C1.out
        have f0 := (hk1.frozen (p := ⟨w.heap.size, 0, none⟩) (by simp; omega) (by simp)).trans F0.out
        have f1 := (hk1.frozen (p := ⟨w.heap.size, 1, none⟩) (by simp; omega) (by simp)).trans F1.out
        obtain ⟨⟨a, tl, c, hform⟩, hown⟩ := pack_form hpr
        have HPR := Lib.hid hpr; clear hpr
        have HOW := Lib.hid hown; clear hown
        subst hform
        go_wp2
        refine bodyPost_ret (v := .agg #[.int .u64 lo, .slice a tl c]) (by simp [results, Tryd.results33, go_sem, c0, c1]) rfl ⟨_, rfl, ?_, ?_, ?_⟩
        · rw [HLO.out]
          exact setv_of_pack HPR.out (by have := HMM.out; omega) HMK.out ((Kept.setCell (fun k => k = w.heap.size) _ ⟨w.heap.size, 0, none⟩ _ rfl).trans (Kept.setCell (fun k => k = w.heap.size) _ ⟨w.heap.size, 1, none⟩ _ rfl) (fun _ _ h => h) (fun _ _ h => h)) (by omega)
        · rintro k ⟨lo', hv', he, hb⟩
          cases he
          rcases HOW.out with h4 | h4
          · rw [h4] at hb; cases hb
          · rw [h4] at hb; cases hb; omega
        · exact (HKW.out.trans hk1 (fun _ _ h => h) (fun _ _ h => h)).trans ((Kept.setCell (fun k => k = w.heap.size) _ ⟨w.heap.size, 0, none⟩ _ rfl).trans (Kept.setCell (fun k => k = w.heap.size) _ ⟨w.heap.size, 1, none⟩ _ rfl) (fun _ _ h => h) (fun _ _ h => h)) (fun _ _ h => h) (fun i hi e => by omega)
      · obtain ⟨q, hq⟩ : ∃ q, q = m / 64 := ⟨_, rfl⟩
        have hnq : n = q + 1 := by have := HN.out; omega
        obtain ⟨b, hb⟩ : ∃ b : Nat, b = 2 ^ (m % 64) := ⟨_, rfl⟩
        have hb0 : 1 ≤ b := by rw [hb]; exact Nat.pow_pos (by omega)
        have hb64 : b < 18446744073709551616 := by
          rw [hb]
          have : (2 : Nat) ^ (m % 64) < 2 ^ 64 := Nat.pow_lt_pow_right (by omega) (by omega)
          simpa using this
        obtain ⟨b1, hb1⟩ : ∃ b1 : Nat, b1 = b - 1 := ⟨_, rfl⟩
        have hsub : IntKind.u64.wrap ((b : Int) - 1) = (b1 : Int) := by rw [IntWalk.u64_in _ (by omega)]; omega
        have hqi : ((m : Int) / 64) = (q : Int) := by omega
        have hqt : ((m : Int).tdiv 64) = (q : Int) := by rw [Int.tdiv_eq_ediv_of_nonneg (by omega)]; omega
        have hq0 : (0 : Int) ≤ (q : Int) := by omega
        have hq1 : (q : Int) < (n : Int) := by omega
        have hrt : ((m : Int) % 64 == 0) = false := by simp; omega
        have hrt2 : ((m : Int) % 64 != 0) = true := by simp; omega
        have cq : wr.cell? ⟨w.heap.size + 1, q, none⟩ = some (.int .u64 (18446744073709551615 : Nat)) := by
          rw [ho.out.cellAt q (by omega), wv_getD _ _ (by unfold onesL; rw [mixG_length]; omega)]
          have hqk : q < n := by omega
          rw [onesL_end]; simp [List.getD, hqk]
        have fq : wr.frozen? ⟨w.heap.size + 1, q, none⟩ = false := ho.out.frozenAt q
        have hst := ho.out.stored q (.int .u64 (b1 : Int))
        rw [wv_set, show (onesL n n).set q b1 = wl B n by rw [← onesL_odd HON.out hnq (by omega) (by omega), hb1, hb]; congr 3; omega] at hst
        have HO2' := Lib.hid hst.1
        have HBIT := Lib.hid (fun (W : World) => bit_any W m b (by omega) hb)
        have hkw2 : Kept (fun k => k = w.heap.size + 1) wr (wr.setCell ⟨w.heap.size + 1, q, none⟩ (.int .u64 (b1 : Int))) := Kept.setCell (fun k => k = w.heap.size + 1) _ _ _ rfl
        have C0' := (hkw2.cell (p := ⟨w.heap.size, 0, none⟩) (by simp; omega) (by simp)).trans c0
        have C1' := (hkw2.cell (p := ⟨w.heap.size, 1, none⟩) (by simp; omega) (by simp)).trans c1
        have F0' := (hkw2.frozen (p := ⟨w.heap.size, 0, none⟩) (by simp; omega) (by simp)).trans f0
        have F1' := (hkw2.frozen (p := ⟨w.heap.size, 1, none⟩) (by simp; omega) (by simp)).trans f1
        have HKW := Lib.hid (hkw.trans hkw2 (T := fun _ => False) (fun _ _ h => h) (fun i hi e => by omega))
        have hwr : w.heap.size + 1 < (wr.setCell ⟨w.heap.size + 1, q, none⟩ (.int .u64 (b1 : Int))).heap.size := Nat.lt_of_lt_of_le hwr0 hkw2.size
        have C0 := Lib.hid C0'; have C1 := Lib.hid C1'; have F0 := Lib.hid F0'; have F1 := Lib.hid F1'
        have HQ := Lib.hid hq; have HNQ := Lib.hid hnq
        clear C0' C1' F0' F1' c0 c1 f0 f1 hst hb hb1 hq ho hkr HOA hkw2 hkw hnq
        go_wp2_with fail
        refine (HBIT.out _).mono ?_
        rintro e w' ⟨rfl, rfl⟩
        obtain ⟨W2, hW2⟩ : ∃ W, W = wr.setCell ⟨w.heap.size + 1, q, none⟩ (.int .u64 (b1 : Int)) := ⟨_, rfl⟩
        rw [← hW2] at HO2' HKW C0 C1 F0 F1 hwr
        have HO2 := Lib.hid HO2'.out
        have HW2 := Lib.hid hW2
        clear hW2
        have hM := HON.out.lt
        have HMK := Lib.hid hM; clear hM
        obtain ⟨m1, hm1⟩ : ∃ m, n = m + 1 := ⟨n - 1, by omega⟩
        obtain ⟨lo, hlo⟩ : ∃ lo : Nat, lo = (wl B n).getD 0 0 := ⟨_, rfl⟩
        have hcells : ∀ i, i < (wl B n).length → W2.cell? ⟨w.heap.size + 1, 0 + i, none⟩ = some (.int .u64 ((wl B n).getD i 0 : Nat)) := fun i hi => by
          rw [Nat.zero_add, HO2.out.cellAt i (by rw [wl_length] at hi; omega), wv_getD _ _ hi]
        have HP := Lib.hid (pack_at W2 (w.heap.size + 1) 0 n m1 (wl B n) lo (by rw [wl_length, hm1]) (by omega) (by unfold maxLen; omega) hwr hcells hlo)
        clear hcells
        have HLO := Lib.hid hlo; clear hlo
        rw [← hm1] at HP
        have HMM := Lib.hid hm1; clear hm1
        go_wp2_with fail
        rw [← HW2.out]
        refine HP.out.mono ?_
        rintro e w1 ⟨hv, rfl, hpr, hk1⟩
        have c0 := (hk1.cell (p := ⟨w.heap.size, 0, none⟩) (by simp; omega) (by simp)).trans C0.out
        have c1 := (hk1.cell (p := ⟨w.heap.size, 1, none⟩) (by simp; omega) (by simp)).trans C1.out
        have f0 := (hk1.frozen (p := ⟨w.heap.size, 0, none⟩) (by simp; omega) (by simp)).trans F0.out
        have f1 := (hk1.frozen (p := ⟨w.heap.size, 1, none⟩) (by simp; omega) (by simp)).trans F1.out
        obtain ⟨⟨a, tl, c, hform⟩, hown⟩ := pack_form hpr
        have HPR := Lib.hid hpr; clear hpr
        have HOW := Lib.hid hown; clear hown
        subst hform
        go_wp2
        refine bodyPost_ret (v := .agg #[.int .u64 lo, .slice a tl c]) (by simp [results, Tryd.results33, go_sem, c0, c1]) rfl ⟨_, rfl, ?_, ?_, ?_⟩
        · rw [HLO.out]
          exact setv_of_pack HPR.out (by have := HMM.out; omega) HMK.out ((Kept.setCell (fun k => k = w.heap.size) _ ⟨w.heap.size, 0, none⟩ _ rfl).trans (Kept.setCell (fun k => k = w.heap.size) _ ⟨w.heap.size, 1, none⟩ _ rfl) (fun _ _ h => h) (fun _ _ h => h)) (by omega)
        · rintro k ⟨lo', hv', he, hb⟩
          cases he
          rcases HOW.out with h4 | h4
          · rw [h4] at hb; cases hb
          · rw [h4] at hb; cases hb; omega
        · exact (HKW.out.trans hk1 (fun _ _ h => h) (fun _ _ h => h)).trans ((Kept.setCell (fun k => k = w.heap.size) _ ⟨w.heap.size, 0, none⟩ _ rfl).trans (Kept.setCell (fun k => k = w.heap.size) _ ⟨w.heap.size, 1, none⟩ _ rfl) (fun _ _ h => h) (fun _ _ h => h)) (fun _ _ h => h) (fun i hi e => by omega)

set_option maxRecDepth 100000 in
set_option maxHeartbeats 3200000 in
theorem below_all (w : World) (n0 : Int) (h1 : 4096 < n0) (HM : Hid (4096 = clampN n0)) :
    Calls Tryd.prog 33 #[.int .i64 n0] w fun e w' => ∃ v, e = .returned v ∧ SetV w' v (2 ^ clampN n0 - 1) ∧ (∀ k, setBlk v k → w.heap.size ≤ k) ∧ Kept (fun _ => False) w w' := by
  obtain ⟨i0, hi, hz0, hz1, hz2⟩ := info_parts info_u64
  obtain ⟨n, hn⟩ : ∃ n : Nat, n = (4096 + 63) / 64 := ⟨_, rfl⟩
  have hn64 : n ≤ 64 := by omega
  have hn1 : 1 ≤ n := by omega
  have hnw : ((4095) + 64) / 64 = (n : Int) := by omega
  have hBB : ∃ B, B = 2 ^ clampN n0 - 1 ∧ OnesAt B 4096 n := ⟨2 ^ clampN n0 - 1, rfl, onesAt' _ 4096 n HM.out (by omega)⟩
  obtain ⟨B, hB, hon⟩ := hBB
  rw [← hB]
  have HON := Lib.hid hon; have HN := Lib.hid hn; have HNW := Lib.hid hnw
  clear hB hon hn HM hnw
  go_enter Tryd.func33, Tryd.ntmps33
  go_wp2_with fail
  refine (wordsFor_any _ (4095) (by omega) (by omega)).mono ?_
  rintro e w' ⟨rfl, rfl⟩
  rw [HNW.out]
  go_wp2_with (refine wpList_make_full _ rfl _ _ _ rfl w.heap.size 54 i0 _ 1 Tryd.underlying55 hi hz0 hz1 _ _ _ _ n rfl rfl rfl rfl (by rw [hz2]; omega) (by unfold maxLen; omega) (by simp) ?_)
  intro wA hownA hgrowA
  rw [wv_nil, wl_zero] at hownA
  have e00 : List.replicate n 0 = onesL n 0 := zerosL n
  rw [e00] at hownA
  have hkA : Kept (fun _ => False) w wA := (Kept.alloc (fun _ => False) w _).trans (Kept.ofGrown (S := fun _ => False) hgrowA (fun k e => by cases e)) (fun _ _ h => h) (fun _ _ h => h)
  have r0 : wA.cell? ⟨w.heap.size, 0, none⟩ = some (.int .u64 0) := (hgrowA.cell_far ⟨w.heap.size, 0, none⟩ (by simp) (by simp)).trans (by go_simp)
  have r1 : wA.cell? ⟨w.heap.size, 1, none⟩ = some (.slice none 0 0) := (hgrowA.cell_far ⟨w.heap.size, 1, none⟩ (by simp) (by simp)).trans (by go_simp)
  have rf : ∀ i, wA.frozen? ⟨w.heap.size, i, none⟩ = false := fun i => (hgrowA.frozen_far ⟨w.heap.size, i, none⟩ (by simp) (by simp)).trans (by go_simp)
  have hAs : w.heap.size + 1 < wA.heap.size := by
    obtain ⟨_, hh⟩ := hownA
    rcases hh with ⟨h, _⟩ | ⟨g', cap', cur, h, _, hg', _⟩
    · cases h
    · cases h; exact (Array.getElem?_eq_some_iff.1 hg').1
  have RF := Lib.hid rf; clear rf
  have R0 := Lib.hid r0; clear r0
  have R1 := Lib.hid r1; clear r1
  have HOA := Lib.hid hownA; clear hownA
  clear hgrowA e00
  go_wp2_with fail
  go_loopw [14] (fun iv wr => ∃ k : Nat, k ≤ n ∧ iv = .int .i64 k ∧ Hid (wr.ownsRow w.heap.size 54 1 (.slice (some ⟨w.heap.size + 1, 0, none⟩) n n) n (wv (onesL n k))) ∧ Kept (fun k => k = w.heap.size + 1) wA wr) (fun iv _ => n - (intOf iv).toNat)
  case atStart => exact ⟨0, Nat.zero_le _, rfl, HOA.out, Kept.refl _ _⟩
  case round =>
    obtain ⟨k, hk, rfl, ho, hkr⟩ := hrel
    by_cases hlt : k < n
    · have hlt' : (k : Int) < (n : Int) := by omega
      have hk0 : (0 : Int) ≤ (k : Int) := by omega
      have cq : wr.cell? ⟨w.heap.size + 1, k, none⟩ = some (.int .u64 0) := by
        rw [ho.out.cellAt k (by omega), wv_getD _ _ (by unfold onesL; rw [mixG_length]; exact hlt)]
        unfold onesL; rw [mixG_getD _ _ _ _ hlt]; rfl
      have fq : wr.frozen? ⟨w.heap.size + 1, k, none⟩ = false := ho.out.frozenAt k
      have hst := ho.out.stored k (.int .u64 (18446744073709551615 : Nat))
      rw [wv_set, show (onesL n k).set k 18446744073709551615 = onesL n (k + 1) from mixG_set _ _ n k hlt] at hst
      have HST := Lib.hid hst.1
      clear hst
      go_wp2
      go_roundw
      case rel => exact ⟨k + 1, by omega, by go_num, HST.out, hkr.trans (Kept.setCell (fun k => k = w.heap.size + 1) _ _ _ rfl) (fun _ _ h => h) (fun _ _ h => h)⟩
      case measure => simp [intOf]; omega
    · have hkn : n = k := by omega
      subst hkn
      have c0 : wr.cell? ⟨w.heap.size, 0, none⟩ = some (.int .u64 0) := (hkr.cell (p := ⟨w.heap.size, 0, none⟩) (by simp; omega) (by simp)).trans R0.out
      have c1 : wr.cell? ⟨w.heap.size, 1, none⟩ = some (.slice none 0 0) := (hkr.cell (p := ⟨w.heap.size, 1, none⟩) (by simp; omega) (by simp)).trans R1.out
      have f0 : wr.frozen? ⟨w.heap.size, 0, none⟩ = false := (hkr.frozen (p := ⟨w.heap.size, 0, none⟩) (by simp; omega) (by simp)).trans (RF.out 0)
      have f1 : wr.frozen? ⟨w.heap.size, 1, none⟩ = false := (hkr.frozen (p := ⟨w.heap.size, 1, none⟩) (by simp; omega) (by simp)).trans (RF.out 1)
      have hwr0 : w.heap.size + 1 < wr.heap.size := Nat.lt_of_lt_of_le hAs hkr.size
      have hkw : Kept (fun _ => False) w wr := hkA.trans hkr (fun _ _ h => h) (fun i hi e => by omega)
      obtain ⟨W2, hW2⟩ : ∃ W, W = wr := ⟨_, rfl⟩
      rw [← hW2] at ho c0 c1 f0 f1 hwr0 hkw ⊢
      have hwr := hwr0
      have hev : onesL n n = wl B n := onesL_even HON.out (by have := HN.out; omega)
      rw [hev] at ho
      have HO2 := Lib.hid ho.out; have HKW := Lib.hid hkw
      have C0 := Lib.hid c0; have C1 := Lib.hid c1; have F0 := Lib.hid f0; have F1 := Lib.hid f1
      clear c0 c1 f0 f1 ho hev hW2 hkr HOA hkw
      have hM := HON.out.lt
      have HMK := Lib.hid hM; clear hM
      obtain ⟨m1, hm1⟩ : ∃ m, n = m + 1 := ⟨n - 1, by omega⟩
      obtain ⟨lo, hlo⟩ : ∃ lo : Nat, lo = (wl B n).getD 0 0 := ⟨_, rfl⟩
      have hcells : ∀ i, i < (wl B n).length → W2.cell? ⟨w.heap.size + 1, 0 + i, none⟩ = some (.int .u64 ((wl B n).getD i 0 : Nat)) := fun i hi => by
        rw [Nat.zero_add, HO2.out.cellAt i (by rw [wl_length] at hi; omega), wv_getD _ _ hi]
      have HP := Lib.hid (pack_at W2 (w.heap.size + 1) 0 n m1 (wl B n) lo (by rw [wl_length, hm1]) (by omega) (by unfold maxLen; omega) hwr hcells hlo)
      clear hcells
      have HLO := Lib.hid hlo; clear hlo
      rw [← hm1] at HP
      have HMM := Lib.hid hm1; clear hm1
      go_wp2_with fail
      refine HP.out.mono ?_
      rintro e w1 ⟨hv, rfl, hpr, hk1⟩
      have c0 := (hk1.cell (p := ⟨w.heap.size, 0, none⟩) (by simp; omega) (by simp)).trans C0.out
      have c1 := (hk1.cell (p := ⟨w.heap.size, 1, none⟩) (by simp; omega) (by simp)).trans C1.out
      have f0 := (hk1.frozen (p := ⟨w.heap.size, 0, none⟩) (by simp; omega) (by simp)).trans F0.out
      have f1 := (hk1.frozen (p := ⟨w.heap.size, 1, none⟩) (by simp; omega) (by simp)).trans F1.out
      obtain ⟨⟨a, tl, c, hform⟩, hown⟩ := pack_form hpr
      have HPR := Lib.hid hpr; clear hpr
      have HOW := Lib.hid hown; clear hown
      subst hform
      go_wp2
      refine bodyPost_ret (v := .agg #[.int .u64 lo, .slice a tl c]) (by simp [results, Tryd.results33, go_sem, c0, c1]) rfl ⟨_, rfl, ?_, ?_, ?_⟩
      · rw [HLO.out]
        exact setv_of_pack HPR.out (by have := HMM.out; omega) HMK.out ((Kept.setCell (fun k => k = w.heap.size) _ ⟨w.heap.size, 0, none⟩ _ rfl).trans (Kept.setCell (fun k => k = w.heap.size) _ ⟨w.heap.size, 1, none⟩ _ rfl) (fun _ _ h => h) (fun _ _ h => h)) (by omega)
      · rintro k ⟨lo', hv', he, hb⟩
        cases he
        rcases HOW.out with h4 | h4
        · rw [h4] at hb; cases hb
        · rw [h4] at hb; cases hb; omega
      · exact (HKW.out.trans hk1 (fun _ _ h => h) (fun _ _ h => h)).trans ((Kept.setCell (fun k => k = w.heap.size) _ ⟨w.heap.size, 0, none⟩ _ rfl).trans (Kept.setCell (fun k => k = w.heap.size) _ ⟨w.heap.size, 1, none⟩ _ rfl) (fun _ _ h => h) (fun _ _ h => h)) (fun _ _ h => h) (fun i hi e => by omega)

theorem below_any (w : World) (n0 : Int) :
    Calls Tryd.prog 33 #[.int .i64 n0] w fun e w' => ∃ v, e = .returned v ∧ SetV w' v (2 ^ clampN n0 - 1) ∧ (∀ k, setBlk v k → w.heap.size ≤ k) ∧ Kept (fun _ => False) w w' := by
  by_cases h1 : n0 ≤ 0
  · have hc : clampN n0 = 0 := by
      unfold clampN
      split
      · rfl
      · split <;> omega
    rw [hc]
    refine (show Calls Tryd.prog 33 #[.int .i64 n0] w fun e w' => e = .returned (.agg #[.int .u64 0, .slice none 0 0]) ∧ Kept (fun _ => False) w w' from by
      by_cases h0 : n0 = 0
      · subst h0; exact below_nil w
      · exact below_neg w n0 (by omega)).mono ?_
    rintro e w' ⟨rfl, hk⟩
    refine ⟨_, rfl, ⟨⟨_, [], rfl, Or.inl ⟨rfl, rfl⟩, ⟨rfl, by simp, Or.inl rfl⟩, fun _ => rfl⟩⟩, ?_, hk⟩
    rintro k ⟨lo, hv, he, hb⟩
    cases he
    cases hb
  · by_cases h2 : n0 ≤ 4096
    · obtain ⟨m, rfl⟩ := Int.eq_ofNat_of_zero_le (show 0 ≤ n0 by omega)
      exact below_mid w m (by omega) h2 (show m = clampN (m : Int) by unfold clampN; rw [if_neg (by omega), if_pos h2]; simp)
    · exact below_all w n0 (by omega) (show 4096 = clampN n0 by unfold clampN; rw [if_neg (by omega), if_neg h2])
end Go.Proofs.YtjglnpijngdpkaaDoor
