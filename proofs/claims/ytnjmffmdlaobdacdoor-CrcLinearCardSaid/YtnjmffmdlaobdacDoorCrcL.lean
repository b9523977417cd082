/-
  The laws of layer 4 on numbers and bytes: CrcCombines, CrcAssociates, CrcJoins, CrcLinear return true.
-/
import Derived.Test.YtnjmffmdlaobdacDoorCrcA
import Derived.Test.YtnjmffmdlaobdacDoorArgIn
import Derived.Deep.RegionHeld3
import Derived.Deep.RegionLaw
import Derived.BigRegion
namespace Go.Proofs.YtnjmffmdlaobdacDoor
open Go.RowKit

theorem tkn_zero (c : Nat) : tkn c 0 = sts 8 c := by unfold tkn; rw [Nat.xor_zero]

set_option maxRecDepth 100000 in
set_option maxHeartbeats 400000 in
theorem rcombine_any (a b : Nat) (n : Int) (w : World) (ha : a < 2 ^ 32) (hb : b < 2 ^ 32) (hn : n ≤ 100000) :
    Calls Tryd.prog 13 #[.int .u32 a, .int .u32 b, .int .i64 n] w fun e w' => e = .returned (.int .u32 (cmb a b n.toNat : Nat)) ∧ w = w' := by
  obtain ⟨m, hm⟩ : ∃ m, m = n.toNat := ⟨_, rfl⟩
  rw [← hm]
  have HM := Lib.hid hm; clear hm
  go_enter Tryd.func13, Tryd.ntmps13
  go_wp2_with fail
  go_loop [0, 7] (fun v i => ∃ k : Nat, k ≤ m ∧ i = .int .i64 k ∧ v = .int .u32 (sts (8 * k) a : Nat)) (fun _ i => m - (intOf i).toNat)
  case atStart => exact ⟨0, Nat.zero_le _, rfl, rfl⟩
  case round =>
    obtain ⟨k, hk, rfl, rfl⟩ := hrel
    have hsl : sts (8 * k) a < 2 ^ 32 := sts_lt ha
    have hs : sts (8 * (k + 1)) a = sts 8 (sts (8 * k) a) := by rw [Nat.mul_add, sts_add]
    have HS := Lib.hid hs; clear hs
    by_cases hlt : k < m
    · have hlt' : (k : Int) < n := by have := HM.out; omega
      have hk1 : (k : Int) ≤ 100000 := by omega
      go_wp2_with fail
      refine (take_any4 _ 0 hsl (by omega) w).mono ?_
      rw [tkn_zero]
      rintro e w' ⟨rfl, rfl⟩
      go_wp2_with fail
      go_round
      case rel => exact ⟨k + 1, by omega, by go_num, by rw [HS.out]⟩
      case measure => simp [intOf]; omega
    · obtain rfl : k = m := by omega
      have hlt' : ¬ (k : Int) < n := by have := HM.out; omega
      obtain ⟨y, hy⟩ : ∃ y, y = sts (8 * k) a ^^^ b := ⟨_, rfl⟩
      have hx := xor32 _ b y hsl hb hy
      have HF := Lib.hid (show cmb a b k = y by rw [cmb, hy])
      clear hy
      go_wp2_with fail
      go_ret
      exact ⟨ret_int (by rw [HF.out]), rfl⟩

theorem combine_any (a b : Nat) (n : Int) (w : World) (ha : a < 2 ^ 32) (hb : b < 2 ^ 32) (hn : n < 2 ^ 63) :
    Calls Tryd.prog 12 #[.int .u32 a, .int .u32 b, .int .i64 n] w fun e w' => e = .returned (.int .u32 (cmb a b n.toNat : Nat)) ∧ w = w' := by
  by_cases h : n ≤ 0
  · rw [show n.toNat = 0 by omega]; exact combine_neg a b n w ha hb h
  · obtain ⟨m, rfl⟩ := Int.eq_ofNat_of_zero_le (show 0 ≤ n by omega)
    rw [Int.toNat_natCast]
    exact combine_pos a b m w ha hb (by omega)

set_option maxRecDepth 100000 in
set_option maxHeartbeats 400000 in
theorem combines_any (a b : Nat) (n : Int) (w : World) (hT : Tab w) (ha : a < 2 ^ 32) (hb : b < 2 ^ 32) (hn : -32768 ≤ n ∧ n < 32768) :
    Calls Tryd.prog 3 #[.int .u32 a, .int .u32 b, .int .i16 n] w fun e w' => e = .returned (.bool true) ∧ Kept (fun _ => False) w w' := by
  have hw : IntKind.i64.wrap n = n := IntWalk.i64_in _ (by omega)
  go_enter Tryd.func3, Tryd.ntmps3
  go_wp2_with fail
  refine (awake4_any w hT).mono ?_
  rintro e w1 ⟨rfl, hk⟩
  have hlt : n.tmod 3000 < 3000 := Int.tmod_lt_of_pos n (by omega)
  go_wp2_with fail
  refine (combine_any a b _ w1 ha hb (by omega)).mono ?_
  rintro e w2 ⟨rfl, rfl⟩
  go_wp2_with fail
  refine (rcombine_any a b _ w1 ha hb (by omega)).mono ?_
  rintro e w2 ⟨rfl, rfl⟩
  go_wp2_with fail
  go_ret
  exact ⟨rfl, hk⟩

theorem cmb_lt {a b n : Nat} (ha : a < 2 ^ 32) (hb : b < 2 ^ 32) : cmb a b n < 2 ^ 32 := Nat.xor_lt_two_pow (sts_lt ha) hb

set_option maxRecDepth 100000 in
set_option maxHeartbeats 800000 in
theorem associates_any (x y z : Nat) (n m : Int) (w : World) (hT : Tab w) (hx : x < 2 ^ 32) (hy : y < 2 ^ 32) (hz : z < 2 ^ 32) (hn : -9223372036854775808 ≤ n ∧ n < 9223372036854775808) (hm : -9223372036854775808 ≤ m ∧ m < 9223372036854775808) :
    Calls Tryd.prog 5 #[.agg #[.int .u32 x, .int .u32 y, .int .u32 z], .int .i64 n, .int .i64 m] w fun e w' => e = .returned (.bool true) ∧ Kept (fun _ => False) w w' := by
  obtain ⟨N, hN⟩ : ∃ N : Nat, max n 0 / 2 = (N : Int) := ⟨(max n 0 / 2).toNat, by omega⟩
  obtain ⟨M, hM⟩ : ∃ M : Nat, max m 0 / 2 = (M : Int) := ⟨(max m 0 / 2).toNat, by omega⟩
  have hNl : N < 2 ^ 62 := by omega
  have hMl : M < 2 ^ 62 := by omega
  obtain ⟨r1, hr1⟩ : ∃ r, r = cmb x y N := ⟨_, rfl⟩
  obtain ⟨r3, hr3⟩ : ∃ r, r = cmb y z M := ⟨_, rfl⟩
  obtain ⟨q, hq⟩ : ∃ r, r = cmb r1 z M := ⟨_, rfl⟩
  have hq2 : q = cmb x r3 (N + M) := by rw [hq, hr1, hr3, cmb_assoc]
  have hl1 : r1 < 2 ^ 32 := by rw [hr1]; exact cmb_lt hx hy
  have hl3 : r3 < 2 ^ 32 := by rw [hr3]; exact cmb_lt hy hz
  have C1 := fun (W : World) (k : Nat) => combine_any x y N (W.drewN k) hx hy (by omega)
  have C2 := fun (W : World) (k : Nat) => combine_any r1 z M (W.drewN k) hl1 hz (by omega)
  have C3 := fun (W : World) (k : Nat) => combine_any y z M (W.drewN k) hy hz (by omega)
  have C4 := fun (W : World) (k : Nat) => combine_any x r3 ((N : Int) + M) (W.drewN k) hx hl3 (by omega)
  rw [Int.toNat_natCast, ← hr1] at C1
  rw [Int.toNat_natCast, ← hq] at C2
  rw [Int.toNat_natCast, ← hr3] at C3
  rw [show ((N : Int) + M).toNat = N + M by omega, ← hq2] at C4
  have H1 := Lib.hid C1; have H2 := Lib.hid C2; have H3 := Lib.hid C3; have H4 := Lib.hid C4
  clear C1 C2 C3 C4 hr1 hr3 hq hq2
  have s1 : (N : Int) < 4611686018427387904 := by omega
  have s2 : (M : Int) < 4611686018427387904 := by omega
  go_enter Tryd.func5, Tryd.ntmps5
  go_wp2_with fail
  refine (awake4_any _ (hT.kept (Kept.alloc (fun _ => False) _ _) (fun h => h))).mono ?_
  rintro e w1 ⟨rfl, hk⟩
  have c0 : w1.cell? ⟨w.heap.size, 0, none⟩ = some (.int .u32 x) := (hk.cell (p := ⟨w.heap.size, 0, none⟩) (by simp) (fun h => h)).trans (by go_simp)
  have c1 : w1.cell? ⟨w.heap.size, 1, none⟩ = some (.int .u32 y) := (hk.cell (p := ⟨w.heap.size, 1, none⟩) (by simp) (fun h => h)).trans (by go_simp)
  have c2 : w1.cell? ⟨w.heap.size, 2, none⟩ = some (.int .u32 z) := (hk.cell (p := ⟨w.heap.size, 2, none⟩) (by simp) (fun h => h)).trans (by go_simp)
  have hkw : Kept (fun _ => False) w w1 := (Kept.alloc _ _ _).then hk
  clear hk
  go_wp2_with fail
  go_quiet ((first | (go_at_call 12; with_reducible exact quiet_left (H1.out _ _)) | (go_at_call 12; with_reducible exact quiet_left (H2.out _ _)) | (go_at_call 12; with_reducible exact quiet_left (H3.out _ _)) | (go_at_call 12; with_reducible exact quiet_left (H4.out _ _))))
  go_wp2_with fail
  go_ret
  exact ⟨rfl, hkw.drewN _⟩

set_option maxRecDepth 100000 in
set_option maxHeartbeats 800000 in
theorem joins_any (p q : Value) (xs ys : List Nat) (w : World) (hT : Tab w) (hp : InBytes w p xs) (hq : InBytes w q ys) :
    Calls Tryd.prog 4 #[p, q] w fun e w' => e = .returned (.bool true) ∧ Kept (fun _ => False) w w' := by
  obtain ⟨i0, hi, hz0, hz1, hz2⟩ := info_parts info_u8c
  have bx : ∀ x ∈ xs.take 3000, x < 256 := fun x hx => hp.byte x (List.mem_of_mem_take hx)
  have bq : ∀ x ∈ ys.take 3000, x < 256 := fun x hx => hq.byte x (List.mem_of_mem_take hx)
  have lx : (xs.take 3000).length ≤ 3000 := by simp; omega
  have ly : (ys.take 3000).length ≤ 3000 := by simp; omega
  obtain ⟨a, c, hpf⟩ := hp.reads.form
  obtain ⟨a', c', hqf⟩ := hq.reads.form
  have HP := Lib.hid hp; have HQ := Lib.hid hq; have HT := Lib.hid hT; have BX := Lib.hid bx; have BQ := Lib.hid bq
  clear hp hq hT bx bq
  subst hpf hqf
  go_enter Tryd.func4, Tryd.ntmps4
  go_wp2_with fail
  refine (awake4_any w HT.out).mono ?_
  rintro e w0 ⟨rfl, hk0⟩
  go_wp2_with fail
  refine (few_any _ xs 3000 w0 (HP.out.reads.kept hk0 (fun _ _ h => h)) (by omega)).mono ?_
  rintro e w1 ⟨p1, rfl, hf1, hk1⟩
  go_wp2_with fail
  refine (few_any _ ys 3000 w1 ((HQ.out.reads.kept hk0 (fun _ _ h => h)).kept hk1 (fun _ _ h => h)) (by omega)).mono ?_
  rintro e w2 ⟨q2, rfl, hf2, hk2⟩
  have hk02 := (hk0.then hk1).then hk2
  have r1 := hf1.reads.kept hk2 (fun _ _ h => h)
  have r2 := hf2.reads
  have HT2 := Lib.hid (HT.out.kept hk02 (fun h => h))
  clear hf1 hf2 hk0 hk1 hk2
  generalize hxs : xs.take 3000 = us at *
  generalize hys : ys.take 3000 = vs at *
  clear hxs hys
  obtain ⟨a1, c1, hv1⟩ := r1.form
  obtain ⟨a2, c2, hv2⟩ := r2.form
  have R1 := Lib.hid r1; have R2 := Lib.hid r2; clear r1 r2
  subst hv1 hv2
  have hs1 : crcS us < 2 ^ 32 := crcU_lt (by omega) BX.out
  have hs2 : crcS vs < 2 ^ 32 := crcU_lt (by omega) BQ.out
  have hj := cmb_crc us vs
  obtain ⟨r, hr⟩ : ∃ r, r = crcS (us ++ vs) := ⟨_, rfl⟩
  rw [← hr] at hj
  have HR := Lib.hid hr; have HJ := Lib.hid hj; clear hr hj
  go_wp2_with fail
  refine (sum_any _ us w2 R1.out BX.out HT2.out).mono ?_
  rintro e w3 ⟨rfl, rfl⟩
  go_wp2_with fail
  refine (sum_any _ vs w2 R2.out BQ.out HT2.out).mono ?_
  rintro e w3 ⟨rfl, rfl⟩
  go_wp2_with fail
  refine (combine_any (crcS us) (crcS vs) vs.length w2 hs1 hs2 (by omega)).mono ?_
  rw [Int.toNat_natCast, HJ.out]
  rintro e w3 ⟨rfl, rfl⟩
  go_wp2_with fail
  refine (bclone_any _ us w2 R1.out (by omega)).mono ?_
  rintro e w3 ⟨v3, rfl, hf3, hk3⟩
  have hb : ∀ x ∈ us ++ vs, x < 256 := fun x hx => by
    rcases List.mem_append.1 hx with h | h
    · exact BX.out x h
    · exact BQ.out x h
  have HB := Lib.hid hb; clear hb
  have r23 := R2.out.kept hk3 (fun _ _ h => h)
  have hT3 := HT2.out.kept hk3 (fun h => h)
  have HT3 := Lib.hid hT3; clear hT3
  have hk03 := hk02.then hk3
  have HF3 := Lib.hid hf3; clear hf3
  obtain ⟨a3, c3, hv3⟩ := HF3.out.reads.form
  have HO3 := Lib.hid HF3.out.own
  subst hv3
  rcases r23 with ⟨h1, h2⟩ | ⟨g, off, cap, h1, h2, h3, h4, h5⟩
  · have hx0 : vs.length = 0 := by rw [h2]; rfl
    have hva : a2 = none ∧ c2 = 0 := by
      rw [hx0] at h1; cases h1; exact ⟨rfl, rfl⟩
    obtain ⟨rfl, rfl⟩ := hva
    rw [hx0]
    go_wp2_with (at_builtin; refine wpList_append_own_none rfl _ _ _ rfl w2.heap.size 5 i0 1 Tryd.underlying27 hi _ _ _ rfl HO3.out rfl ?_)
    go_wp2_with fail
    have hru : crcS us = r := by rw [HR.out, h2, List.append_nil]
    refine (sum_any _ us w3 HF3.out.reads BX.out HT3.out).mono ?_
    rw [hru]
    rintro e w4 ⟨rfl, rfl⟩
    clear hru
    go_wp2_with fail
    go_ret
    exact ⟨rfl, hk03⟩
  · cases h1
    have hnews : ∀ j u, (bv vs)[j]? = some u → w3.cell? ((⟨g, off, none⟩ : Addr).add j) = some u := fun j u hu => by
      have hadd : (⟨g, off, none⟩ : Addr).add j = ⟨g, off + j, none⟩ := by unfold Addr.add; split <;> simp_all
      have hj : j < vs.length := by
        have := (List.getElem?_eq_some_iff.1 hu).1
        rwa [bv_length] at this
      rw [hadd, h5 j hj, ← bv_at8 vs j hj]; exact hu
    have HNE := Lib.hid hnews; clear hnews h5
    have hs3' := hk3.size
    go_wp2_with (at_builtin; refine wpList_append_own_at _ rfl _ _ _ rfl w2.heap.size 5 i0 _ 1 1 Tryd.underlying27 hi hz0 hz1 hz2 rfl (by omega) _ _ _ rfl HO3.out ⟨g, off, none⟩ vs.length c2 (bv vs) rfl (by simp [bv_length]) HNE.out (bv_oneCell _) (by unfold maxLen; omega) (by omega) hs3' ?_)
    intro v4 w4 hown4 hgrow4 _ hat4
    have hk4 : Kept (fun _ => False) w w4 := hk03.trans (Kept.ofGrown (S := blk (.slice a3 us.length c3)) hgrow4 fun k e => e) (fun _ _ h => h) (fun i hi hb => by have := (HO3.out.lt i hb).1; have := hk02.size; omega)
    have hf4 : Fresh w4 w2.heap.size v4 (us ++ vs) := ⟨by rw [List.length_append, bv_append]; exact hown4, fun k hk => (hown4.lt k hk).1⟩
    have hr4 := hf4.reads
    obtain ⟨a4, c4, hv4⟩ := hr4.form
    rw [List.length_append] at hv4
    have HR4 := Lib.hid hr4
    have hT4 := HT.out.kept hk4 (fun h => h)
    have HT4 := Lib.hid hT4
    clear hf4 hown4 hgrow4 hat4 hr4 hT4
    subst hv4
    go_wp2_with fail
    refine (sum_any _ (us ++ vs) w4 HR4.out HB.out HT4.out).mono ?_
    rw [← HR.out]
    rintro e w5 ⟨rfl, rfl⟩
    go_wp2_with fail
    go_ret
    exact ⟨rfl, hk4⟩
end Go.Proofs.YtnjmffmdlaobdacDoor
