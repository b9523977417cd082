/-
  The laws of layer 4 on numbers and bytes: CrcCombines, CrcAssociates, CrcJoins, CrcLinear return true.
-/
import Derived.Test.YtnjmffmdlaobdacDoorCrcA
import Derived.Test.YtnjmffmdlaobdacDoorArgIn
import Derived.Deep.RegionHeld3
import Derived.Deep.RegionLaw
import Derived.BigRegion
namespace Go.Proofs.YtnjmffmdlaobdacDoor
open Go.RowKit

theorem tkn_zero (c : Nat) : tkn c 0 = sts 8 c := by unfold tkn; rw [Nat.xor_zero]

set_option maxRecDepth 100000 in
set_option maxHeartbeats 400000 in
theorem rcombine_any (a b : Nat) (n : Int) (w : World) (ha : a < 2 ^ 32) (hb : b < 2 ^ 32) (hn : n ≤ 100000) :
    Calls Tryd.prog 13 #[.int .u32 a, .int .u32 b, .int .i64 n] w fun e w' => e = .returned (.int .u32 (cmb a b n.toNat : Nat)) ∧ w = w' := by
  obtain ⟨m, hm⟩ : ∃ m, m = n.toNat := ⟨_, rfl⟩
  rw [← hm]
  have HM := Lib.hid hm; clear hm
  go_enter Tryd.func13, Tryd.ntmps13
  go_wp2_with fail
  go_loop [0, 7] (fun v i => ∃ k : Nat, k ≤ m ∧ i = .int .i64 k ∧ v = .int .u32 (sts (8 * k) a : Nat)) (fun _ i => m - (intOf i).toNat)
  case atStart => exact ⟨0, Nat.zero_le _, rfl, rfl⟩
  case round =>
    obtain ⟨k, hk, rfl, rfl⟩ := hrel
    have hsl : sts (8 * k) a < 2 ^ 32 := sts_lt ha
    have hs : sts (8 * (k + 1)) a = sts 8 (sts (8 * k) a) := by rw [Nat.mul_add, sts_add]
    have HS := Lib.hid hs; clear hs
    by_cases hlt : k < m
    · have hlt' : (k : Int) < n := by have := HM.out; omega
      have hk1 : (k : Int) ≤ 100000 := by omega
      go_wp2_with fail
      refine (take_any4 _ 0 hsl (by omega) w).mono ?_
      rw [tkn_zero]
      rintro e w' ⟨rfl, rfl⟩
      go_wp2_with fail
      go_round
      case rel => exact ⟨k + 1, by omega, by go_num, by rw [HS.out]⟩
      case measure => simp [intOf]; omega
    · obtain rfl : k = m := by omega
      have hlt' : ¬ (k : Int) < n := by have := HM.out; omega
      obtain ⟨y, hy⟩ : ∃ y, y = sts (8 * k) a ^^^ b := ⟨_, rfl⟩
      have hx := xor32 _ b y hsl hb hy
      have HF := Lib.hid (show cmb a b k = y by rw [cmb, hy])
      clear hy
      go_wp2_with fail
      go_ret
      exact ⟨ret_int (by rw [HF.out]), rfl⟩

theorem combine_any (a b : Nat) (n : Int) (w : World) (ha : a < 2 ^ 32) (hb : b < 2 ^ 32) (hn : n < 2 ^ 63) :
    Calls Tryd.prog 12 #[.int .u32 a, .int .u32 b, .int .i64 n] w fun e w' => e = .returned (.int .u32 (cmb a b n.toNat : Nat)) ∧ w = w' := by
  by_cases h : n ≤ 0
  · rw [show n.toNat = 0 by omega]; exact combine_neg a b n w ha hb h
  · obtain ⟨m, rfl⟩ := Int.eq_ofNat_of_zero_le (show 0 ≤ n by omega)
    rw [Int.toNat_natCast]
    exact combine_pos a b m w ha hb (by omega)

set_option maxRecDepth 100000 in
set_option maxHeartbeats 400000 in
theorem combines_any (a b : Nat) (n : Int) (w : World) (hT : Tab w) (ha : a < 2 ^ 32) (hb : b < 2 ^ 32) (hn : -32768 ≤ n ∧ n < 32768) :
    Calls Tryd.prog 3 #[.int .u32 a, .int .u32 b, .int .i16 n] w fun e w' => e = .returned (.bool true) ∧ Kept (fun _ => False) w w' := by
  have hw : IntKind.i64.wrap n = n := IntWalk.i64_in _ (by omega)
  go_enter Tryd.func3, Tryd.ntmps3
  go_wp2_with fail
  refine (awake4_any w hT).mono ?_
  rintro e w1 ⟨rfl, hk⟩
  have hlt : n.tmod 3000 < 3000 := Int.tmod_lt_of_pos n (by omega)
  go_wp2_with fail
  refine (combine_any a b _ w1 ha hb (by omega)).mono ?_
  rintro e w2 ⟨rfl, rfl⟩
  go_wp2_with fail
  refine (rcombine_any a b _ w1 ha hb (by omega)).mono ?_
  rintro e w2 ⟨rfl, rfl⟩
  go_wp2_with fail
  go_ret
  exact ⟨rfl, hk⟩

theorem cmb_lt {a b n : Nat} (ha : a < 2 ^ 32) (hb : b < 2 ^ 32) : cmb a b n < 2 ^ 32 := Nat.xor_lt_two_pow (sts_lt ha) hb

set_option maxRecDepth 100000 in
set_option maxHeartbeats 800000 in
theorem associates_any (x y z : Nat) (n m : Int) (w : World) (hT : Tab w) (hx : x < 2 ^ 32) (hy : y < 2 ^ 32) (hz : z < 2 ^ 32) (hn : -9223372036854775808 ≤ n ∧ n < 9223372036854775808) (hm : -9223372036854775808 ≤ m ∧ m < 9223372036854775808) :
    Calls Tryd.prog 5 #[.agg #[.int .u32 x, .int .u32 y, .int .u32 z], .int .i64 n, .int .i64 m] w fun e w' => e = .returned (.bool true) ∧ Kept (fun _ => False) w w' := by
  obtain ⟨N, hN⟩ : ∃ N : Nat, max n 0 / 2 = (N : Int) := ⟨(max n 0 / 2).toNat, by omega⟩
  obtain ⟨M, hM⟩ : ∃ M : Nat, max m 0 / 2 = (M : Int) := ⟨(max m 0 / 2).toNat, by omega⟩
  have hNl : N < 2 ^ 62 := by omega
  have hMl : M < 2 ^ 62 := by omega
  obtain ⟨r1, hr1⟩ : ∃ r, r = cmb x y N := ⟨_, rfl⟩
  obtain ⟨r3, hr3⟩ : ∃ r, r = cmb y z M := ⟨_, rfl⟩
  obtain ⟨q, hq⟩ : ∃ r, r = cmb r1 z M := ⟨_, rfl⟩
  have hq2 : q = cmb x r3 (N + M) := by rw [hq, hr1, hr3, cmb_assoc]
  have hl1 : r1 < 2 ^ 32 := by rw [hr1]; exact cmb_lt hx hy
  have hl3 : r3 < 2 ^ 32 := by rw [hr3]; exact cmb_lt hy hz
  have C1 := fun (W : World) (k : Nat) => combine_any x y N (W.drewN k) hx hy (by omega)
  have C2 := fun (W : World) (k : Nat) => combine_any r1 z M (W.drewN k) hl1 hz (by omega)
  have C3 := fun (W : World) (k : Nat) => combine_any y z M (W.drewN k) hy hz (by omega)
  have C4 := fun (W : World) (k : Nat) => combine_any x r3 ((N : Int) + M) (W.drewN k) hx hl3 (by omega)
  rw [Int.toNat_natCast, ← hr1] at C1
  rw [Int.toNat_natCast, ← hq] at C2
  rw [Int.toNat_natCast, ← hr3] at C3
  rw [show ((N : Int) + M).toNat = N + M by omega, ← hq2] at C4
  have H1 := Lib.hid C1; have H2 := Lib.hid C2; have H3 := Lib.hid C3; have H4 := Lib.hid C4
  clear C1 C2 C3 C4 hr1 hr3 hq hq2
  have s1 : (N : Int) < 4611686018427387904 := by omega
  have s2 : (M : Int) < 4611686018427387904 := by omega
  go_enter Tryd.func5, Tryd.ntmps5
  go_wp2_with fail
  refine (awake4_any _ (hT.kept (Kept.alloc (fun _ => False) _ _) (fun h => h))).mono ?_
  rintro e w1 ⟨rfl, hk⟩
  have c0 : w1.cell? ⟨w.heap.size, 0, none⟩ = some (.int .u32 x) := (hk.cell (p := ⟨w.heap.size, 0, none⟩) (by simp) (fun h => h)).trans (by go_simp)
  have c1 : w1.cell? ⟨w.heap.size, 1, none⟩ = some (.int .u32 y) := (hk.cell (p := ⟨w.heap.size, 1, none⟩) (by simp) (fun h => h)).trans (by go_simp)
  have c2 : w1.cell? ⟨w.heap.size, 2, none⟩ = some (.int .u32 z) := (hk.cell (p := ⟨w.heap.size, 2, none⟩) (by simp) (fun h => h)).trans (by go_simp)
  have hkw : Kept (fun _ => False) w w1 := (Kept.alloc _ _ _).then hk
  clear hk
  go_wp2_with fail
  go_quiet ((first | (go_at_call 12; with_reducible exact quiet_left (H1.out _ _)) | (go_at_call 12; with_reducible exact quiet_left (H2.out _ _)) | (go_at_call 12; with_reducible exact quiet_left (H3.out _ _)) | (go_at_call 12; with_reducible exact quiet_left (H4.out _ _))))
  go_wp2_with fail
  go_ret
  exact ⟨rfl, hkw.drewN _⟩
end Go.Proofs.YtnjmffmdlaobdacDoor
