/-
  arbac/keccak: RotateLeft64, mixColumns, moved, permute.
-/
import Derived.Test.YtdmnanocmpkhjaaDoorKecW
import Derived.Deep.QuietTactic
namespace Go.Proofs.YtdmnanocmpkhjaaDoor
open Go.RowKit

theorem quiet_leftK {P : Program} {f : FuncId} {args : Array Value} {w : World} {n : Nat} {v : Value}
    (h : Calls P f args (w.drewN n) fun e w' => e = .returned v ∧ w.drewN n = w') : Calls P f args (w.drewN n) fun e w'' => e = .returned v ∧ ∃ m, w'' = w.drewN m :=
  h.mono fun _ _ ⟨he, hm⟩ => ⟨he, n, hm.symm⟩

theorem ret_intK {k : IntKind} {a b : Int} (h : a = b) : Ending.returned (.int k a) = .returned (.int k b) := by rw [h]

theorem rol_walk (x k : Nat) (hx : x < 2 ^ 64) : bits .or .u64 (IntKind.u64.wrap ((x : Int) * 2 ^ k)) ((x : Int) / 2 ^ (64 - k)) = ((rol x k : Nat) : Int) := by
  have h1 : IntKind.u64.wrap ((x : Int) * 2 ^ k) = ((x * 2 ^ k % 2 ^ 64 : Nat) : Int) := by
    rw [IntKind.wrap_u64, Int.natCast_emod, Int.natCast_mul, Int.natCast_pow]; rfl
  have h2 : (x : Int) / 2 ^ (64 - k) = ((x / 2 ^ (64 - k) : Nat) : Int) := by
    rw [Int.natCast_ediv, Int.natCast_pow]; rfl
  rw [h1, h2, u64_or_nat _ _ (Nat.mod_lt _ (by decide)) (Nat.lt_of_le_of_lt (Nat.div_le_self _ _) hx)]
  rfl

set_option maxRecDepth 100000 in
set_option maxHeartbeats 400000 in
theorem rot_any (x k : Nat) (w : World) (hx : x < 2 ^ 64) (hk : k < 64) :
    Calls Tryd.prog 20 #[.int .u64 x, .int .i64 k] w fun e w' => e = .returned (.int .u64 (rol x k : Nat)) ∧ w = w' := by
  have hw : IntKind.u64.wrap (k : Int) = (k : Int) := IntWalk.u64_in _ (by omega)
  have ha : bits .and .u64 (k : Int) 63 = (k : Int) := by
    rw [show (63 : Int) = ((63 : Nat) : Int) from rfl, u64_and_nat _ _ (by omega) (by omega)]
    congr 1
    exact (Nat.and_two_pow_sub_one_eq_mod k 6).trans (Nat.mod_eq_of_lt hk)
  have hk1 : (k : Int) ≤ 64 := by omega
  have hk2 : (k : Int) < 64 := by omega
  have hs : IntKind.u64.wrap (64 - (k : Int)) = 64 - (k : Int) := IntWalk.u64_in _ (by omega)
  have HR := Lib.hid (rol_walk x k hx)
  go_enter Tryd.func20, Tryd.ntmps20
  go_wp2_with fail
  go_ret
  exact ⟨ret_intK HR.out, rfl⟩

theorem Lanes.at {w : World} {g off : Nat} {s : List Nat} (h : Lanes w g off s) (i : Nat) (hi : i < s.length) : w.cell? ⟨g, off + i, none⟩ = some (.int .u64 (ln s i : Nat)) := h.cell i hi

theorem lanes_new (w : World) (cs : Array Value) (T : TypeId) (s : List Nat) (hcs : cs.toList = s.map fun n : Nat => Value.int .u64 (n : Int)) : Lanes (w.alloc (.cells cs T)) w.heap.size 0 s := by
  refine ⟨fun i hi => ?_, fun i _ => World.frozen?_alloc_new _ _ _ _⟩
  rw [Nat.zero_add, cell_of_row _ w.heap.size i cs T (0, 0) (heap_alloc_new w _), ← Array.getElem?_toList, hcs]
  simp [List.getD, hi]

theorem colL_length (s : List Nat) : (colL s).length = 5 := by simp [colL]
theorem colL_ln (s : List Nat) (k : Nat) (hk : k < 5) : (colL s).getD k 0 = colS s k := by simp [colL, List.getD, hk]

theorem getD_set_ne (l : List Nat) (i j a : Nat) (h : i ≠ j) : (l.set i a).getD j 0 = l.getD j 0 := by simp [List.getD, h]

set_option maxRecDepth 100000 in
set_option maxHeartbeats 1600000 in
theorem mixColumns_any (w : World) (g off : Nat) (s : List Nat) (h25 : s.length = 25) (hb : ∀ x ∈ s, x < 2 ^ 64) (h : Lanes w g off s) (hg : g < w.heap.size) :
    Calls Tryd.prog 17 #[.pointer (some ⟨g, off, none⟩)] w fun e w' => e = .returned (.tuple #[]) ∧ Lanes w' g off (mixS s) ∧ KR g off (off + 25) w w' := by
  have HH := Lib.hid h; have HB := Lib.hid hb; have H25 := Lib.hid h25
  clear h hb h25
  go_enter Tryd.func17, Tryd.ntmps17
  go_wp2_with fail
  go_loopw [3, 6] (fun _ i wr => ∃ k : Nat, k ≤ 5 ∧ i = .int .i64 k ∧ Lanes wr w.heap.size 0 ((colL s).take k ++ List.replicate (5 - k) 0) ∧ KR w.heap.size 0 5 (w.alloc (.cells #[.int .u64 0, .int .u64 0, .int .u64 0, .int .u64 0, .int .u64 0] 52)) wr) (fun _ i _ => 5 - (intOf i).toNat)
  case atStart =>
    refine ⟨0, by omega, rfl, lanes_new _ _ _ _ rfl, KR.refl _ _ _ _⟩
  case round =>
    obtain ⟨k, hk, rfl, hc, hkr⟩ := hrel
    have hgw : g ≠ w.heap.size := by omega
    have hs1 : Lanes (w.alloc (.cells #[.int .u64 0, .int .u64 0, .int .u64 0, .int .u64 0, .int .u64 0] 52)) g off s := HH.out.kept (Kept.alloc (fun _ => False) _ _) hg (fun h => h)
    have hs2 := hs1.kr hkr (by simp; omega) (Or.inl hgw)
    have hl5 : ((colL s).take k ++ List.replicate (5 - k) 0).length = 5 := by simp [colL_length]; omega
    by_cases hlt : k < 5
    · have e0 := hs2.at k (by rw [H25.out]; omega)
      have e1 := hs2.at (k + 5) (by rw [H25.out]; omega)
      have e2 := hs2.at (k + 10) (by rw [H25.out]; omega)
      have e3 := hs2.at (k + 15) (by rw [H25.out]; omega)
      have e4 := hs2.at (k + 20) (by rw [H25.out]; omega)
      have d := hc.cell k (by rw [hl5]; exact hlt)
      have f := hc.free k (by rw [hl5]; exact hlt)
      rw [Nat.zero_add] at d f
      generalize ((colL s).take k ++ List.replicate (5 - k) 0).getD k 0 = old at d
      obtain ⟨t1, ht1⟩ : ∃ t, t = ln s k ^^^ ln s (k + 5) := ⟨_, rfl⟩
      obtain ⟨t2, ht2⟩ : ∃ t, t = t1 ^^^ ln s (k + 10) := ⟨_, rfl⟩
      obtain ⟨t3, ht3⟩ : ∃ t, t = t2 ^^^ ln s (k + 15) := ⟨_, rfl⟩
      obtain ⟨t4, ht4⟩ : ∃ t, t = t3 ^^^ ln s (k + 20) := ⟨_, rfl⟩
      have hcol : colS s k = t4 := by rw [ht4, ht3, ht2, ht1]; rfl
      have b0 := ln_lt HB.out k; have b1 := ln_lt HB.out (k + 5); have b2 := ln_lt HB.out (k + 10); have b3 := ln_lt HB.out (k + 15); have b4 := ln_lt HB.out (k + 20)
      have l1 : t1 < 2 ^ 64 := by rw [ht1]; exact Nat.xor_lt_two_pow b0 b1
      have l2 : t2 < 2 ^ 64 := by rw [ht2]; exact Nat.xor_lt_two_pow l1 b2
      have l3 : t3 < 2 ^ 64 := by rw [ht3]; exact Nat.xor_lt_two_pow l2 b3
      have x1 := xor64 _ _ t1 b0 b1 ht1
      have x2 := xor64 _ _ t2 l1 b2 ht2
      have x3 := xor64 _ _ t3 l2 b3 ht3
      have x4 := xor64 _ _ t4 l3 b4 ht4
      have hset := hc.drew.set k t4 (by rw [hl5]; exact hlt)
      rw [← hcol, ← colL_ln s k hlt, fill_set (colL s) 5 k (colL_length s) hlt, Nat.zero_add, colL_ln s k hlt, hcol] at hset
      have hkr' : KR w.heap.size 0 5 _ (wr.drew.setCell ⟨w.heap.size, k, none⟩ (.int .u64 (t4 : Int))) := hkr.drew.trans (KR.setCell w.heap.size k 0 5 wr.drew (.int .u64 (t4 : Int)) (by omega)) (Nat.le_refl _) (Nat.le_refl _) (Nat.le_refl _) (Nat.le_refl _)
      have HSET := Lib.hid hset; have HKR := Lib.hid hkr'
      clear ht1 ht2 ht3 ht4 hcol hset hkr' hc hkr hs1 hs2 hl5 l1 l2 l3 b0 b1 b2 b3 b4
      generalize ln s k = v0 at *
      generalize ln s (k + 5) = v1 at *
      generalize ln s (k + 10) = v2 at *
      generalize ln s (k + 15) = v3 at *
      generalize ln s (k + 20) = v4 at *
      obtain ⟨k1, h1⟩ : ∃ j, j = k + 5 := ⟨_, rfl⟩
      obtain ⟨k2, h2⟩ : ∃ j, j = k + 10 := ⟨_, rfl⟩
      obtain ⟨k3, h3⟩ : ∃ j, j = k + 15 := ⟨_, rfl⟩
      obtain ⟨k4, h4⟩ : ∃ j, j = k + 20 := ⟨_, rfl⟩
      rw [← h1] at e1
      rw [← h2] at e2
      rw [← h3] at e3
      rw [← h4] at e4
      have n1 : IntKind.i64.wrap ((k : Int) + 5) = (k1 : Int) := by rw [IntWalk.i64_in _ (by omega)]; omega
      have n2 : IntKind.i64.wrap ((k : Int) + 10) = (k2 : Int) := by rw [IntWalk.i64_in _ (by omega)]; omega
      have n3 : IntKind.i64.wrap ((k : Int) + 15) = (k3 : Int) := by rw [IntWalk.i64_in _ (by omega)]; omega
      have n4 : IntKind.i64.wrap ((k : Int) + 20) = (k4 : Int) := by rw [IntWalk.i64_in _ (by omega)]; omega
      have m0 : (k : Int) < 5 := by omega
      have p0 : (0 : Int) ≤ k := by omega
      have q0 : (k : Int) < 25 := by omega
      have q1 : (k1 : Int) < 25 := by omega
      have q2 : (k2 : Int) < 25 := by omega
      have q3 : (k3 : Int) < 25 := by omega
      have q4 : (k4 : Int) < 25 := by omega
      have p1 : (0 : Int) ≤ k1 := by omega
      have p2 : (0 : Int) ≤ k2 := by omega
      have p3 : (0 : Int) ≤ k3 := by omega
      have p4 : (0 : Int) ≤ k4 := by omega
      clear h1 h2 h3 h4
      go_wp2_with fail
      go_still_tail 35, (by kernel_rfl)
      change wpList _ _ _ _ _ wr.drew
      replace d : wr.drew.cell? _ = _ := d
      replace f : wr.drew.frozen? _ = _ := f
      clear e0 e1 e2 e3 e4 x1 x2 x3 x4
      generalize wr.drew = v at *
      go_wp2_with fail
      go_roundw
      case rel => exact ⟨k + 1, by omega, by go_num, HSET.out, HKR.out⟩
      case measure => simp [intOf]; omega
    · obtain rfl : k = 5 := by omega
      rw [List.take_of_length_le (by rw [colL_length]; omega), Nat.sub_self, List.replicate_zero, List.append_nil] at hc
      have hk0 : Kept (fun _ => False) w wr := (Kept.alloc (fun _ => False) w _).trans hkr.kept (fun _ _ h => h) (fun i hi e => by omega)
      have hkw : KR g off (off + 25) w wr := KR.ofKept hk0 hg
      have hcw : w.heap.size < wr.heap.size := Nat.lt_of_lt_of_le (by simp) hkr.kept.size
      have hm0 : Lanes wr g off (mixK s 0) := by rw [mixK_zero H25.out]; exact hs2
      have hgs := hk0.size
      clear hkr hs1 hs2 hl5 hk0
      have HM0 := Lib.hid hm0; have HC := Lib.hid hc; have HKW := Lib.hid hkw
      clear hm0 hc hkw
      generalize w.heap.size = gc at *
      go_wp2_with fail
      go_loopw [4, 5, 45] (fun _ _ i W => ∃ k : Nat, k ≤ 5 ∧ i = .int .i64 k ∧ Lanes W g off (mixK s k) ∧ Lanes W gc 0 (colL s) ∧ KR g off (off + 25) w W ∧ gc < W.heap.size ∧ g < W.heap.size) (fun _ _ i _ => 5 - (intOf i).toNat)
      case atStart => exact ⟨0, by omega, rfl, HM0.out, HC.out, HKW.out, hcw, by omega⟩
      case round =>
        clear HM0 HC HKW hcw hgs
        obtain ⟨k, hk, rfl, hm, hc, hkw, hgc, hgg⟩ := hrel
        by_cases hlt : k < 5
        · obtain ⟨x4, hx4⟩ : ∃ x, x = (k + 4) % 5 := ⟨_, rfl⟩
          obtain ⟨x1, hx1⟩ : ∃ x, x = (k + 1) % 5 := ⟨_, rfl⟩
          obtain ⟨a4, ha4⟩ : ∃ x, x = k + 4 := ⟨_, rfl⟩
          obtain ⟨a1, ha1⟩ : ∃ x, x = k + 1 := ⟨_, rfl⟩
          have e4 := hc.cell x4 (by rw [colL_length]; omega)
          have e1 := hc.cell x1 (by rw [colL_length]; omega)
          rw [Nat.zero_add, colL_ln s _ (by omega)] at e4 e1
          have n4 : IntKind.i64.wrap ((k : Int) + 4) = (a4 : Int) := by rw [IntWalk.i64_in _ (by omega)]; omega
          have n1 : IntKind.i64.wrap ((k : Int) + 1) = (a1 : Int) := by rw [IntWalk.i64_in _ (by omega)]; omega
          have t4 : (a4 : Int).tmod 5 = (x4 : Int) := by rw [Int.tmod_eq_emod_of_nonneg (by omega)]; omega
          have t1 : (a1 : Int).tmod 5 = (x1 : Int) := by rw [Int.tmod_eq_emod_of_nonneg (by omega)]; omega
          have t4' : (a4 : Int) % 5 = (x4 : Int) := by omega
          have t1' : (a1 : Int) % 5 = (x1 : Int) := by omega
          have b4 := colS_lt HB.out x4; have b1 := colS_lt HB.out x1
          obtain ⟨r, hr⟩ : ∃ r, r = rol (colS s x1) 1 := ⟨_, rfl⟩
          have hrl : r < 2 ^ 64 := by rw [hr]; exact rol_lt b1 (by omega)
          obtain ⟨d, hd⟩ : ∃ d, d = colS s x4 ^^^ r := ⟨_, rfl⟩
          have hdl : d < 2 ^ 64 := by rw [hd]; exact Nat.xor_lt_two_pow b4 hrl
          have hdS : dS s k = d := by rw [dS, ← hx4, ← hx1, ← hr, ← hd]
          have xd := xor64 _ _ d b4 hrl hd
          have hrot := fun (j : Nat) => rot_any (colS s x1) 1 (wr.drewN j) b1 (by omega)
          rw [← hr] at hrot
          have q4 : (x4 : Int) < 5 := by omega
          have q1 : (x1 : Int) < 5 := by omega
          have p4 : (0 : Int) ≤ x4 := by omega
          have p1 : (0 : Int) ≤ x1 := by omega
          have HROT := Lib.hid hrot; have HDS := Lib.hid hdS
          clear hx4 hx1 ha4 ha1 hr hd hrot hdS
          generalize colS s x4 = c4 at *
          generalize colS s x1 = c1 at *
          have m0 : (k : Int) < 5 := by omega
          have p0 : (0 : Int) ≤ k := by omega
          have HM := Lib.hid hm; have HC := Lib.hid hc; have HKW := Lib.hid hkw
          clear hm hc hkw
          go_wp2_with fail
          go_quiet ((go_at_call 20; exact quiet_leftK (HROT.out _)))
          have hkq : Kept (fun _ => False) wr (wr.drewN nq) := (Kept.refl _ _).drewN _
          have M0 := HM.out.kept hkq hgg (fun h => h)
          have C0 := HC.out.kept hkq hgc (fun h => h)
          have K0 := HKW.out.trans (KR.ofKept (lo := off) (hi := off + 25) hkq hgg) (Nat.le_refl _) (Nat.le_refl _) (Nat.le_refl _) (Nat.le_refl _)
          have gc0 : gc < (wr.drewN nq).heap.size := hgc
          have gg0 : g < (wr.drewN nq).heap.size := hgg
          generalize wr.drewN nq = w0 at *
          clear hkq HM HC HKW HROT hgc hgg e4 e1 n4 n1 t4 t1 t4' t1' q4 q1 p4 p1 b4 b1 hrl xd
          have p0 : (0 : Int) ≤ k := by omega
          have q0 : (k : Int) < 25 := by omega
          have hv0 : (mixK s k).getD k 0 = ln s (k + 0) := by
            rw [mixK_getD s k _ (by omega), if_neg (by omega)]; rfl
          have c0 := M0.cell k (by simp [mixK_length]; omega)
          have f0 := M0.free k (by simp [mixK_length]; omega)
          rw [hv0] at c0
          obtain ⟨y0, hy0⟩ : ∃ y, y = ln s (k + 0) ^^^ d := ⟨_, rfl⟩
          have xx := xor64 _ _ y0 (ln_lt HB.out (k + 0)) hdl hy0
          have S0 := M0.drew.set k y0 (by simp [mixK_length]; omega)
          have kr := KR.setCell g (off + k) off (off + 25) w0.drew (.int .u64 (y0 : Int)) (by omega)
          have C1 := C0.drew.kr kr gc0 (Or.inl (by omega))
          have K1 := K0.drew.trans kr (Nat.le_refl _) (Nat.le_refl _) (Nat.le_refl _) (Nat.le_refl _)
          have gc1 := Nat.lt_of_lt_of_le (show gc < w0.drew.heap.size from gc0) kr.kept.size
          have gg1 := Nat.lt_of_lt_of_le (show g < w0.drew.heap.size from gg0) kr.kept.size
          have HS0 := Lib.hid S0; have HC0 := Lib.hid C1; have HK0 := Lib.hid K1; have HY0 := Lib.hid hy0
          clear M0 C0 K0 S0 C1 K1 hv0 hy0 kr gc0 gg0
          obtain ⟨v0, hw0⟩ : ∃ v, v = ln s (k + 0) := ⟨_, rfl⟩
          rw [← hw0] at c0 xx
          have HV0 := Lib.hid hw0; clear hw0
          go_wp2_with fail
          go_still_tail 9, (by kernel_rfl)
          change wpList _ _ _ _ _ w0.drew
          replace c0 : w0.drew.cell? _ = _ := c0
          replace f0 : w0.drew.frozen? _ = _ := f0
          generalize w0.drew = z0 at *
          go_wp2_with fail
          clear c0 f0 xx p0 q0
          have M1 := HS0.out; have C1 := HC0.out; have K1 := HK0.out
          clear HS0 HC0 HK0
          generalize z0.setCell ⟨g, off + k, none⟩ (.int .u64 (y0 : Int)) = w1 at *
          obtain ⟨k1, hk1⟩ : ∃ j, j = k + 5 := ⟨_, rfl⟩
          have n1 : IntKind.i64.wrap ((k : Int) + 5) = (k1 : Int) := by rw [IntWalk.i64_in _ (by omega)]; omega
          have p1 : (0 : Int) ≤ k1 := by omega
          have q1 : (k1 : Int) < 25 := by omega
          have hv1 : ((mixK s k).set k y0).getD k1 0 = ln s (k + 5) := by
            rw [getD_set_ne _ _ _ _ (by omega), mixK_getD s k _ (by omega), if_neg (by omega), hk1]
          have c1 := M1.cell k1 (by simp [mixK_length]; omega)
          have f1 := M1.free k1 (by simp [mixK_length]; omega)
          rw [hv1] at c1
          obtain ⟨y1, hy1⟩ : ∃ y, y = ln s (k + 5) ^^^ d := ⟨_, rfl⟩
          have xx := xor64 _ _ y1 (ln_lt HB.out (k + 5)) hdl hy1
          have S1 := M1.drew.set k1 y1 (by simp [mixK_length]; omega)
          have kr := KR.setCell g (off + k1) off (off + 25) w1.drew (.int .u64 (y1 : Int)) (by omega)
          have C2 := C1.drew.kr kr gc1 (Or.inl (by omega))
          have K2 := K1.drew.trans kr (Nat.le_refl _) (Nat.le_refl _) (Nat.le_refl _) (Nat.le_refl _)
          have gc2 := Nat.lt_of_lt_of_le (show gc < w1.drew.heap.size from gc1) kr.kept.size
          have gg2 := Nat.lt_of_lt_of_le (show g < w1.drew.heap.size from gg1) kr.kept.size
          have HS1 := Lib.hid S1; have HC1 := Lib.hid C2; have HK1 := Lib.hid K2; have HY1 := Lib.hid hy1
          have HKK1 := Lib.hid hk1; clear hk1
          clear M1 C1 K1 S1 C2 K2 hv1 hy1 kr gc1 gg1
          obtain ⟨v1, hw1⟩ : ∃ v, v = ln s (k + 5) := ⟨_, rfl⟩
          rw [← hw1] at c1 xx
          have HV1 := Lib.hid hw1; clear hw1
          go_wp2_with fail
          go_still_tail 10, (by kernel_rfl)
          change wpList _ _ _ _ _ w1.drew
          replace c1 : w1.drew.cell? _ = _ := c1
          replace f1 : w1.drew.frozen? _ = _ := f1
          generalize w1.drew = z1 at *
          go_wp2_with fail
          clear c1 f1 xx p1 q1 n1
          have M2 := HS1.out; have C2 := HC1.out; have K2 := HK1.out
          clear HS1 HC1 HK1
          generalize z1.setCell ⟨g, off + k1, none⟩ (.int .u64 (y1 : Int)) = w2 at *
          obtain ⟨k2, hk2⟩ : ∃ j, j = k + 10 := ⟨_, rfl⟩
          have n2 : IntKind.i64.wrap ((k : Int) + 10) = (k2 : Int) := by rw [IntWalk.i64_in _ (by omega)]; omega
          have p2 : (0 : Int) ≤ k2 := by omega
          have q2 : (k2 : Int) < 25 := by omega
          have hv2 : (((mixK s k).set k y0).set k1 y1).getD k2 0 = ln s (k + 10) := by
            have a1 := HKK1.out; rw [getD_set_ne _ _ _ _ (by omega), getD_set_ne _ _ _ _ (by omega), mixK_getD s k _ (by omega), if_neg (by omega), hk2]
          have c2 := M2.cell k2 (by simp [mixK_length]; omega)
          have f2 := M2.free k2 (by simp [mixK_length]; omega)
          rw [hv2] at c2
          obtain ⟨y2, hy2⟩ : ∃ y, y = ln s (k + 10) ^^^ d := ⟨_, rfl⟩
          have xx := xor64 _ _ y2 (ln_lt HB.out (k + 10)) hdl hy2
          have S2 := M2.drew.set k2 y2 (by simp [mixK_length]; omega)
          have kr := KR.setCell g (off + k2) off (off + 25) w2.drew (.int .u64 (y2 : Int)) (by omega)
          have C3 := C2.drew.kr kr gc2 (Or.inl (by omega))
          have K3 := K2.drew.trans kr (Nat.le_refl _) (Nat.le_refl _) (Nat.le_refl _) (Nat.le_refl _)
          have gc3 := Nat.lt_of_lt_of_le (show gc < w2.drew.heap.size from gc2) kr.kept.size
          have gg3 := Nat.lt_of_lt_of_le (show g < w2.drew.heap.size from gg2) kr.kept.size
          have HS2 := Lib.hid S2; have HC2 := Lib.hid C3; have HK2 := Lib.hid K3; have HY2 := Lib.hid hy2
          have HKK2 := Lib.hid hk2; clear hk2
          clear M2 C2 K2 S2 C3 K3 hv2 hy2 kr gc2 gg2
          obtain ⟨v2, hw2⟩ : ∃ v, v = ln s (k + 10) := ⟨_, rfl⟩
          rw [← hw2] at c2 xx
          have HV2 := Lib.hid hw2; clear hw2
          go_wp2_with fail
          go_still_tail 10, (by kernel_rfl)
          change wpList _ _ _ _ _ w2.drew
          replace c2 : w2.drew.cell? _ = _ := c2
          replace f2 : w2.drew.frozen? _ = _ := f2
          generalize w2.drew = z2 at *
          go_wp2_with fail
          clear c2 f2 xx p2 q2 n2
          have M3 := HS2.out; have C3 := HC2.out; have K3 := HK2.out
          clear HS2 HC2 HK2
          generalize z2.setCell ⟨g, off + k2, none⟩ (.int .u64 (y2 : Int)) = w3 at *
          obtain ⟨k3, hk3⟩ : ∃ j, j = k + 15 := ⟨_, rfl⟩
          have n3 : IntKind.i64.wrap ((k : Int) + 15) = (k3 : Int) := by rw [IntWalk.i64_in _ (by omega)]; omega
          have p3 : (0 : Int) ≤ k3 := by omega
          have q3 : (k3 : Int) < 25 := by omega
          have hv3 : ((((mixK s k).set k y0).set k1 y1).set k2 y2).getD k3 0 = ln s (k + 15) := by
            have a1 := HKK1.out; have a2 := HKK2.out; rw [getD_set_ne _ _ _ _ (by omega), getD_set_ne _ _ _ _ (by omega), getD_set_ne _ _ _ _ (by omega), mixK_getD s k _ (by omega), if_neg (by omega), hk3]
          have c3 := M3.cell k3 (by simp [mixK_length]; omega)
          have f3 := M3.free k3 (by simp [mixK_length]; omega)
          rw [hv3] at c3
          obtain ⟨y3, hy3⟩ : ∃ y, y = ln s (k + 15) ^^^ d := ⟨_, rfl⟩
          have xx := xor64 _ _ y3 (ln_lt HB.out (k + 15)) hdl hy3
          have S3 := M3.drew.set k3 y3 (by simp [mixK_length]; omega)
          have kr := KR.setCell g (off + k3) off (off + 25) w3.drew (.int .u64 (y3 : Int)) (by omega)
          have C4 := C3.drew.kr kr gc3 (Or.inl (by omega))
          have K4 := K3.drew.trans kr (Nat.le_refl _) (Nat.le_refl _) (Nat.le_refl _) (Nat.le_refl _)
          have gc4 := Nat.lt_of_lt_of_le (show gc < w3.drew.heap.size from gc3) kr.kept.size
          have gg4 := Nat.lt_of_lt_of_le (show g < w3.drew.heap.size from gg3) kr.kept.size
          have HS3 := Lib.hid S3; have HC3 := Lib.hid C4; have HK3 := Lib.hid K4; have HY3 := Lib.hid hy3
          have HKK3 := Lib.hid hk3; clear hk3
          clear M3 C3 K3 S3 C4 K4 hv3 hy3 kr gc3 gg3
          obtain ⟨v3, hw3⟩ : ∃ v, v = ln s (k + 15) := ⟨_, rfl⟩
          rw [← hw3] at c3 xx
          have HV3 := Lib.hid hw3; clear hw3
          go_wp2_with fail
          go_still_tail 10, (by kernel_rfl)
          change wpList _ _ _ _ _ w3.drew
          replace c3 : w3.drew.cell? _ = _ := c3
          replace f3 : w3.drew.frozen? _ = _ := f3
          generalize w3.drew = z3 at *
          go_wp2_with fail
          clear c3 f3 xx p3 q3 n3
          have M4 := HS3.out; have C4 := HC3.out; have K4 := HK3.out
          clear HS3 HC3 HK3
          generalize z3.setCell ⟨g, off + k3, none⟩ (.int .u64 (y3 : Int)) = w4 at *
          obtain ⟨k4, hk4⟩ : ∃ j, j = k + 20 := ⟨_, rfl⟩
          have n4 : IntKind.i64.wrap ((k : Int) + 20) = (k4 : Int) := by rw [IntWalk.i64_in _ (by omega)]; omega
          have p4 : (0 : Int) ≤ k4 := by omega
          have q4 : (k4 : Int) < 25 := by omega
          have hv4 : (((((mixK s k).set k y0).set k1 y1).set k2 y2).set k3 y3).getD k4 0 = ln s (k + 20) := by
            have a1 := HKK1.out; have a2 := HKK2.out; have a3 := HKK3.out; rw [getD_set_ne _ _ _ _ (by omega), getD_set_ne _ _ _ _ (by omega), getD_set_ne _ _ _ _ (by omega), getD_set_ne _ _ _ _ (by omega), mixK_getD s k _ (by omega), if_neg (by omega), hk4]
          have c4 := M4.cell k4 (by simp [mixK_length]; omega)
          have f4 := M4.free k4 (by simp [mixK_length]; omega)
          rw [hv4] at c4
          obtain ⟨y4, hy4⟩ : ∃ y, y = ln s (k + 20) ^^^ d := ⟨_, rfl⟩
          have xx := xor64 _ _ y4 (ln_lt HB.out (k + 20)) hdl hy4
          have S4 := M4.drew.set k4 y4 (by simp [mixK_length]; omega)
          have kr := KR.setCell g (off + k4) off (off + 25) w4.drew (.int .u64 (y4 : Int)) (by omega)
          have C5 := C4.drew.kr kr gc4 (Or.inl (by omega))
          have K5 := K4.drew.trans kr (Nat.le_refl _) (Nat.le_refl _) (Nat.le_refl _) (Nat.le_refl _)
          have gc5 := Nat.lt_of_lt_of_le (show gc < w4.drew.heap.size from gc4) kr.kept.size
          have gg5 := Nat.lt_of_lt_of_le (show g < w4.drew.heap.size from gg4) kr.kept.size
          have HS4 := Lib.hid S4; have HC4 := Lib.hid C5; have HK4 := Lib.hid K5; have HY4 := Lib.hid hy4
          have HKK4 := Lib.hid hk4; clear hk4
          clear M4 C4 K4 S4 C5 K5 hv4 hy4 kr gc4 gg4
          obtain ⟨v4, hw4⟩ : ∃ v, v = ln s (k + 20) := ⟨_, rfl⟩
          rw [← hw4] at c4 xx
          have HV4 := Lib.hid hw4; clear hw4
          go_wp2_with fail
          go_still_tail 10, (by kernel_rfl)
          change wpList _ _ _ _ _ w4.drew
          replace c4 : w4.drew.cell? _ = _ := c4
          replace f4 : w4.drew.frozen? _ = _ := f4
          generalize w4.drew = z4 at *
          go_wp2_with fail
          clear c4 f4 xx p4 q4 n4
          go_roundw
          case rel =>
            have e := mixK_succ s k hlt
            rw [HDS.out, ← HY1.out, ← HY2.out, ← HY3.out, ← HY4.out, show ln s k ^^^ d = y0 from HY0.out.symm, ← HKK1.out, ← HKK2.out, ← HKK3.out, ← HKK4.out] at e
            have hl := HS4.out
            rw [← e] at hl
            first
              | exact ⟨k + 1, by omega, by go_num, hl, HC4.out, HK4.out, gc5, gg5⟩
              | ((repeat apply Exists.intro); exact ⟨⟨k + 1, by omega, by go_num, hl, HC4.out, HK4.out, gc5, gg5⟩, rfl⟩)
          case measure => simp [intOf]; omega
        · obtain rfl : k = 5 := by omega
          rw [mixK_five] at hm
          have HM := Lib.hid hm; have HKW := Lib.hid hkw
          clear hm hkw hc
          go_wp2_with fail
          go_end0
          exact ⟨rfl, HM.out, HKW.out⟩
end Go.Proofs.YtdmnanocmpkhjaaDoor
