/-
  bits.Of: the set of some numbers.
-/
import Derived.Test.YteaagllpkcpedaaDoorWords
import Derived.Test.YteaagllpkcpedaaDoorSetM
import Derived.Deep.RegionHeld3
import Derived.Deep.RegionLaw
import Derived.BigRegion
import Derived.OwnWalk
import Derived.Laws.BitsAllLaws
namespace Go.Proofs.YteaagllpkcpedaaDoor
open Go.RowKit

/-- The value reads as these numbers. -/
def Ints (w : World) (v : Value) (xs : List Int) : Prop :=
  (v = .slice none 0 0 ∧ xs = []) ∨
  ∃ g off cap, v = .slice (some ⟨g, off, none⟩) xs.length cap ∧ xs.length ≤ cap ∧ cap ≤ maxLen ∧ g < w.heap.size ∧
    ∀ i, i < xs.length → w.cell? ⟨g, off + i, none⟩ = some (.int .i64 (xs.getD i 0))

theorem Ints.kept {S : Nat → Prop} {a b : World} {v : Value} {xs : List Int} (h : Ints a v xs) (hk : Kept S a b) (hn : ∀ k, v.ownBlock = some k → ¬ S k) : Ints b v xs := by
  rcases h with h | ⟨g, off, cap, rfl, h1, h2, h3, h4⟩
  · exact Or.inl h
  · exact Or.inr ⟨g, off, cap, rfl, h1, h2, Nat.lt_of_lt_of_le h3 hk.size, fun i hi => (hk.cell h3 (hn g rfl)).trans (h4 i hi)⟩

set_option maxRecDepth 100000 in
set_option maxHeartbeats 800000 in
theorem greatestOf_at (w : World) (g off cap : Nat) (xs : List Int) (hcap : xs.length ≤ cap) (hm : cap ≤ maxLen) (hc : Hid (∀ i, i < xs.length → w.cell? ⟨g, off + i, none⟩ = some (.int .i64 (xs.getD i 0)))) :
    Calls Tryd.prog 39 #[.slice (some ⟨g, off, none⟩) xs.length cap] w fun e w' => e = .returned (.int .i64 (gOf xs)) ∧ w = w' := by
  have hl : xs.length ≤ 9223372036854775807 := by unfold maxLen at hm; omega
  clear hm
  go_enter Tryd.func39, Tryd.ntmps39
  go_wp2_with fail
  go_loop [3, 8] (fun mv iv => ∃ k : Nat, k ≤ xs.length ∧ iv = .int .i64 k ∧ mv = .int .i64 (gOf (xs.take k))) (fun _ iv => xs.length - (intOf iv).toNat)
  case atStart => exact ⟨0, Nat.zero_le _, rfl, rfl⟩
  case round =>
    obtain ⟨k, hk, rfl, rfl⟩ := hrel
    by_cases hlt : k < xs.length
    · have ck := hc.out k hlt
      have hg := gOf_take xs k hlt
      obtain ⟨x, hx⟩ : ∃ x, x = xs.getD k 0 := ⟨_, rfl⟩
      rw [← hx] at ck hg
      clear hx
      have hlt' : (k : Int) < (xs.length : Int) := by omega
      by_cases hp : 0 ≤ x ∧ x ≤ 4095
      · rw [if_pos hp] at hg
        have HG := Lib.hid hg; clear hg
        generalize gOf (xs.take k) = m at HG ⊢
        go_wp2_with fail
        refine (possible_yes _ x hp.1 hp.2).mono ?_
        rintro e w' ⟨rfl, rfl⟩
        go_wp2_with fail
        go_round
        case rel => exact ⟨k + 1, by omega, by go_num, by rw [HG.out]; congr 1; split <;> omega⟩
        case measure => simp [intOf]; omega
      · rw [if_neg hp] at hg
        have HG := Lib.hid hg; clear hg
        generalize gOf (xs.take k) = m at HG ⊢
        go_wp2_with fail
        refine (possible_no _ x (by omega)).mono ?_
        rintro e w' ⟨rfl, rfl⟩
        go_wp2_with fail
        go_round
        case rel => exact ⟨k + 1, by omega, by go_num, by rw [HG.out]⟩
        case measure => simp [intOf]; omega
    · obtain rfl : k = xs.length := by omega
      rw [List.take_length]
      go_wp2_with fail
      go_ret
      exact ⟨rfl, rfl⟩

set_option maxRecDepth 100000 in
theorem greatestOf_nil (w : World) :
    Calls Tryd.prog 39 #[.slice none 0 0] w fun e w' => e = .returned (.int .i64 (gOf [])) ∧ w = w' := by
  go_enter Tryd.func39, Tryd.ntmps39
  go_wp2_with fail
  go_loop [3, 8] (fun mv iv => iv = .int .i64 0 ∧ mv = .int .i64 (-1)) (fun _ _ => 0)
  case atStart => exact ⟨rfl, rfl⟩
  case round =>
    obtain ⟨rfl, rfl⟩ := hrel
    go_wp2_with fail
    go_ret
    exact ⟨rfl, rfl⟩

theorem greatestOf_any (w : World) (v : Value) (xs : List Int) (h : Ints w v xs) :
    Calls Tryd.prog 39 #[v] w fun e w' => e = .returned (.int .i64 (gOf xs)) ∧ w = w' := by
  rcases h with ⟨rfl, rfl⟩ | ⟨g, off, cap, rfl, h1, h2, h3, h4⟩
  · exact greatestOf_nil w
  · exact greatestOf_at w g off cap xs h1 h2 h4

/-- The value is the set of the number M. -/
structure SetV (w : World) (v : Value) (M : Nat) : Prop where
  ex : ∃ hv hs, v = .agg #[.int .u64 (M % 2 ^ 64 : Nat), hv] ∧ Words w hv hs ∧ Canon hs (M / 2 ^ 64) ∧ (hs = [] → hv = .slice none 0 0)

/-- The blocks that a set lies in. -/
def setBlk (v : Value) (k : Nat) : Prop := ∃ lo hv, v = .agg #[lo, hv] ∧ hv.ownBlock = some k

theorem TrimAt.canon {M m n : Nat} (h : TrimAt (wl M m) n) (hM : M < 2 ^ (64 * m)) : Canon ((wl M m).take n) M := by
  have hle := h.le
  rw [wl_length] at hle
  rw [wl_take _ _ _ hle]
  refine ⟨by rw [wl_length], ?_, ?_⟩
  · rw [wl_length]
    exact zero_above M m n hM (fun i h1 h2 => by rw [← wl_getD M m i h2]; exact h.zero i h1 (by rw [wl_length]; exact h2)) hle
  · rw [wl_length]
    rcases h.last with h0 | h0
    · exact Or.inl h0
    · by_cases hn : n = 0
      · exact Or.inl hn
      · rw [wl_getD _ _ _ (by omega)] at h0
        exact Or.inr fun e => h0 (by rw [e])

set_option maxRecDepth 100000 in
theorem pack_nil (w : World) (a : Option Addr) (c : Nat) :
    Calls Tryd.prog 42 #[.slice a 0 c] w fun e w' => e = .returned (.agg #[.int .u64 0, .slice none 0 0]) ∧ Kept (fun _ => False) w w' := by
  go_enter Tryd.func42, Tryd.ntmps42
  go_wp2_with fail
  refine bodyPost_ret (v := .agg #[.int .u64 0, .slice none 0 0]) (by simp [results, Tryd.results42, go_sem]) rfl ⟨rfl, Kept.alloc _ _ _⟩

/-- What 'pack' gives of words whose first one is lo. -/
structure PackRes (w : World) (g : Nat) (ws : List Nat) (hv : Value) : Prop where
  ex : ∃ t, TrimAt (ws.drop 1) t ∧ Words w hv ((ws.drop 1).take t) ∧ (t = 0 → hv = .slice none 0 0) ∧ (hv.ownBlock = none ∨ hv.ownBlock = some g)

set_option maxRecDepth 100000 in
set_option maxHeartbeats 800000 in
/-- 'pack' of words at whose head the low word lies. -/
theorem pack_at (w : World) (g off cap n : Nat) (ws : List Nat) (lo : Nat) (hn : ws.length = n + 1) (hcap : n + 1 ≤ cap) (hm : cap ≤ maxLen) (hg : g < w.heap.size)
    (hc : Hid (∀ i, i < ws.length → w.cell? ⟨g, off + i, none⟩ = some (.int .u64 (ws.getD i 0 : Nat)))) (hlo : Hid (lo = ws.getD 0 0)) :
    Calls Tryd.prog 42 #[.slice (some ⟨g, off, none⟩) (n + 1 : Nat) cap] w fun e w' => ∃ hv, e = .returned (.agg #[.int .u64 lo, hv]) ∧ PackRes w' g ws hv ∧ Kept (fun _ => False) w w' := by
  have hm' : cap ≤ 9223372036854775807 := by unfold maxLen at hm; omega
  have c0 := hc.out 0 (by omega)
  rw [← hlo.out, Nat.add_zero] at c0
  have hdl : (ws.drop 1).length = n := by simp [hn]
  obtain ⟨A, hA, hAb, hcase⟩ : ∃ A : Value, Words w A (ws.drop 1) ∧ A.ownBlock = some g ∧ ((cap = 1 ∧ n = 0 ∧ A = .slice (some ⟨g, off, none⟩) 0 0) ∨ (cap ≠ 1 ∧ A = .slice (some ⟨g, off + 1, none⟩) n (cap - 1))) := by
    by_cases h1 : cap = 1
    · refine ⟨_, Or.inr ⟨g, off, 0, by rw [hdl, show n = 0 by omega], by rw [hdl]; omega, by simp [maxLen], hg, fun i hi => by rw [hdl] at hi; omega⟩, rfl, Or.inl ⟨h1, by omega, rfl⟩⟩
    · refine ⟨_, Or.inr ⟨g, off + 1, cap - 1, by rw [hdl], by rw [hdl]; omega, by omega, hg, fun i hi => ?_⟩, rfl, Or.inr ⟨h1, rfl⟩⟩
      rw [hdl] at hi
      rw [Nat.add_assoc, hc.out (1 + i) (by omega)]
      simp [Nat.add_comm]
  have HA := Lib.hid hA; clear hA
  have HAb := Lib.hid hAb; clear hAb
  have HN := Lib.hid hn; clear hn
  have HM := Lib.hid hm; clear hm
  have HD := Lib.hid hdl; clear hdl
  have hnn : ((n : Int) + 1 == 0) = false := by simp; omega
  have hb1 : (1 : Int) ≤ (n : Int) + 1 := by omega
  have hb2 : (n : Int) + 1 ≤ (cap : Int) := by omega
  have hb3 : (1 : Int) ≤ (cap : Int) := by omega
  rcases hcase with ⟨rfl, rfl, rfl⟩ | ⟨h1, rfl⟩
  all_goals
    go_enter Tryd.func42, Tryd.ntmps42
    go_wp2_with fail
    go_region_held3 (fun w' => w'.cell? ⟨g, off, none⟩ = some (.int .u64 lo))
      (first | go_keep)
      ((go_at_call 44; refine (trim_any _ _ _ (HA.out.kept (Kept.alloc (fun _ => False) w _).drew (fun _ _ h => h))).mono ?_; rintro e w1 ⟨hv, rfl, ht, rfl⟩; obtain ⟨a, m, c, rfl⟩ := ht.form))
    go_wp2
    refine bodyPost_ret (v := .agg #[.int .u64 lo, .slice a m c]) (by simp [results, Tryd.results42, go_sem]) rfl ⟨_, rfl, ⟨?_⟩, (Kept.alloc _ _ _).drew⟩
    obtain ⟨n', h1', h2', h3', h4'⟩ := ht.ex
    rw [HAb.out] at h4'
    refine ⟨n', h1', h2'.kept (Kept.relay w _ _).drews fun k hk e => ?_, h3', h4'⟩
    rcases h4' with h4' | h4'
    · rw [h4'] at hk; cases hk
    · rw [h4'] at hk; cases hk; omega

/-- The cells of a list of words. -/
def wv (xs : List Nat) : List Value := xs.map fun n : Nat => Value.int .u64 (n : Int)

theorem info_u64 : (Tryd.prog.info? 25).map (fun i => (i.zero, i.size, i.bytes)) = some (some (.int .u64 0), 1, 8) := by kernel_rfl

theorem wv_zero (n : Nat) : (madeCells #[Value.int .u64 0] n).toList = wv (List.replicate n 0) := by
  refine List.ext_getElem (by simp [madeCells, wv]) fun i h1 h2 => ?_
  simp [madeCells, wv, Nat.mod_one]

theorem wv_length (xs : List Nat) : (wv xs).length = xs.length := by simp [wv]
theorem wv_getD (xs : List Nat) (i : Nat) (h : i < xs.length) : (wv xs)[i]? = some (.int .u64 (xs.getD i 0 : Nat)) := by simp [wv, List.getD, h]
theorem wv_set (xs : List Nat) (i z : Nat) : (wv xs).set i (.int .u64 (z : Int)) = wv (xs.set i z) := by simp [wv]

set_option maxRecDepth 100000 in
set_option maxHeartbeats 1600000 in
theorem of_at (w : World) (g off cap : Nat) (xs : List Int) (hcap : xs.length ≤ cap) (hm : cap ≤ maxLen) (hg : g < w.heap.size) (hc : Hid (∀ i, i < xs.length → w.cell? ⟨g, off + i, none⟩ = some (.int .i64 (xs.getD i 0)))) :
    Calls Tryd.prog 12 #[.slice (some ⟨g, off, none⟩) xs.length cap] w fun e w' => ∃ v, e = .returned v ∧ SetV w' v (maskOf xs) ∧ (∀ k, setBlk v k → w.heap.size ≤ k) ∧ Kept (fun _ => False) w w' := by
  have hl : xs.length ≤ 9223372036854775807 := by unfold maxLen at hm; omega
  obtain ⟨i0, hi, hz0, hz1, hz2⟩ := info_parts info_u64
  have hgb := gOf_bounds xs
  obtain ⟨n, hn⟩ : ∃ n : Nat, n = ((gOf xs + 64) / 64).toNat := ⟨_, rfl⟩
  have hnn : (gOf xs + 64) / 64 = (n : Int) := by omega
  have hn64 : n ≤ 64 := by omega
  have HN := Lib.hid hn; clear hn
  have HNN := Lib.hid hnn; clear hnn
  have hI : Ints w (.slice (some ⟨g, off, none⟩) xs.length cap) xs := Or.inr ⟨g, off, cap, rfl, hcap, hm, hg, hc.out⟩
  have HI := Lib.hid hI; clear hI
  clear hm
  go_enter Tryd.func12, Tryd.ntmps12
  go_wp2_with fail
  refine (greatestOf_any _ _ xs (HI.out.kept (Kept.alloc (fun _ => False) w _) (fun _ _ h => h))).mono ?_
  rintro e w' ⟨rfl, rfl⟩
  go_wp2_with fail
  refine (wordsFor_any _ _ hgb.1 hgb.2).mono ?_
  rintro e w' ⟨rfl, rfl⟩
  rw [HNN.out]
  go_wp2_with (refine wpList_make_full _ rfl _ _ _ rfl w.heap.size 25 i0 _ 1 Tryd.underlying26 hi hz0 hz1 _ _ _ _ n rfl rfl rfl rfl (by rw [hz2]; omega) (by unfold maxLen; omega) (by simp) ?_)
  intro wA hownA hgrowA
  rw [wv_zero, ← wl_zero] at hownA
  have hkA : Kept (fun _ => False) w wA := (Kept.alloc (fun _ => False) w _).trans (Kept.ofGrown (S := fun _ => False) hgrowA (fun k e => by cases e)) (fun _ _ h => h) (fun _ _ h => h)
  have r0 : wA.cell? ⟨w.heap.size, 0, none⟩ = some (.int .u64 0) := (hgrowA.cell_far ⟨w.heap.size, 0, none⟩ (by simp) (by simp)).trans (by go_simp)
  have r1 : wA.cell? ⟨w.heap.size, 1, none⟩ = some (.slice none 0 0) := (hgrowA.cell_far ⟨w.heap.size, 1, none⟩ (by simp) (by simp)).trans (by go_simp)
  have rf : ∀ i, wA.frozen? ⟨w.heap.size, i, none⟩ = false := fun i => (hgrowA.frozen_far ⟨w.heap.size, i, none⟩ (by simp) (by simp)).trans (by go_simp)
  have hAs : w.heap.size + 1 < wA.heap.size := by
    obtain ⟨_, hh⟩ := hownA
    rcases hh with ⟨h, _⟩ | ⟨g', cap', cur, h, _, hg', _⟩
    · cases h
    · cases h; exact (Array.getElem?_eq_some_iff.1 hg').1
  have RF := Lib.hid rf; clear rf
  have R0 := Lib.hid r0; clear r0
  have R1 := Lib.hid r1; clear r1
  have HOA := Lib.hid hownA; clear hownA
  clear hgrowA
  go_wp2_with fail
  go_loopw [12] (fun iv wr => ∃ k : Nat, k ≤ xs.length ∧ iv = .int .i64 k ∧ Hid (wr.ownsRow w.heap.size 25 1 (.slice (some ⟨w.heap.size + 1, 0, none⟩) n n) n (wv (wl (maskOf (xs.take k)) n))) ∧ Kept (fun k => k = w.heap.size + 1) wA wr) (fun iv _ => xs.length - (intOf iv).toNat)
  case atStart => exact ⟨0, Nat.zero_le _, rfl, HOA.out, Kept.refl _ _⟩
  case round =>
    obtain ⟨k, hk, rfl, ho, hkr⟩ := hrel
    by_cases hlt : k < xs.length
    · have hlt' : (k : Int) < (xs.length : Int) := by omega
      obtain ⟨x, hx⟩ : ∃ x, x = xs.getD k 0 := ⟨_, rfl⟩
      have ck : wr.cell? ⟨g, off + k, none⟩ = some (.int .i64 x) := by
        rw [hx, hkr.cell (p := ⟨g, off + k, none⟩) (Nat.lt_of_lt_of_le hg hkA.size) (by simp; omega), hkA.cell (p := ⟨g, off + k, none⟩) hg (fun h => h)]
        exact hc.out k hlt
      have hmt := maskOf_take xs k hlt
      rw [← hx] at hmt
      by_cases hp : 0 ≤ x ∧ x ≤ 4095
      · have hge := gOf_ge xs x (by rw [hx, List.getD_eq_getElem?_getD, List.getElem?_eq_getElem hlt]; exact List.getElem_mem _) hp.1 hp.2
        have HX := Lib.hid hx; clear hx
        obtain ⟨xn, rfl⟩ := Int.eq_ofNat_of_zero_le hp.1
        have hxn : (xn : Int) ≤ 4095 := hp.2
        obtain ⟨q, hqq⟩ : ∃ q : Nat, q = xn / 64 := ⟨_, rfl⟩
        obtain ⟨b, hb⟩ : ∃ b : Nat, b = 2 ^ (xn % 64) := ⟨_, rfl⟩
        obtain ⟨y, hy⟩ : ∃ y : Nat, y = (wl (maskOf (xs.take k)) n).getD q 0 := ⟨_, rfl⟩
        obtain ⟨z, hz⟩ : ∃ z : Nat, z = y ||| b := ⟨_, rfl⟩
        have hqn : q < n := by have := HNN.out; omega
        have hq : ((xn : Int) / 64) = (q : Int) := by omega
        have hq0 : (0 : Int) ≤ (q : Int) := by omega
        have hqw : IntKind.i64.wrap (q : Int) = (q : Int) := IntWalk.i64_in _ (by omega)
        have hq1 : (q : Int) < (n : Int) := by omega
        have cq : wr.cell? ⟨w.heap.size + 1, q, none⟩ = some (.int .u64 y) := by
          rw [ho.out.cellAt q (by omega), wv_getD _ _ (by rw [wl_length]; exact hqn), hy]
        have fq : wr.frozen? ⟨w.heap.size + 1, q, none⟩ = false := ho.out.frozenAt q
        have hy64 : y < 18446744073709551616 := by
          rw [hy, wl_getD _ _ _ hqn]
          exact Nat.mod_lt _ (by omega)
        have hb64 : b < 18446744073709551616 := by
          rw [hb]
          have : (2 : Nat) ^ (xn % 64) < 2 ^ 64 := Nat.pow_lt_pow_right (by omega) (by omega)
          simpa using this
        have hor : bits .or .u64 (y : Int) (b : Int) = (z : Int) := by rw [hz]; exact u64_or_nat _ _ hy64 hb64
        have hfin : wv ((wl (maskOf (xs.take k)) n).set q z) = wv (wl (maskOf (xs.take (k + 1))) n) := by
          rw [hmt, addM, if_pos ⟨hp.1, hxn⟩, Int.toNat_natCast, ← wl_or _ _ _ (by rw [← hqq]; exact hqn), ← hqq, ← hb, ← hy, ← hz]
        have HF := Lib.hid hfin; clear hfin
        have HB := Lib.hid hb; clear hb
        clear hmt hy hz hqq hy64 hb64 hp hge
        go_wp2_with fail
        refine (possible_yes _ xn (by omega) hxn).mono ?_
        rintro e w' ⟨rfl, rfl⟩
        go_wp2_with fail
        go_region_law ((go_simp; go_at_call 41; refine (bit_any _ xn b (by omega) HB).mono ?_; rintro e w' ⟨rfl, rfl⟩))
        all_goals
          go_wp2
          go_roundw
          case rel =>
            have hst := ho.out.stored q (.int .u64 (z : Int))
            rw [wv_set, HF.out] at hst
            exact ⟨k + 1, by omega, by go_num, hst.1, hkr.trans (Kept.setCell (fun k => k = w.heap.size + 1) _ _ _ rfl).drew (fun _ _ h => h) (fun _ _ h => h)⟩
          case measure => simp [intOf]; omega
      · have HX := Lib.hid hx; clear hx
        rw [addM, if_neg hp] at hmt
        have HMT := Lib.hid hmt; clear hmt
        go_wp2_with fail
        refine (possible_no _ x (by omega)).mono ?_
        rintro e w' ⟨rfl, rfl⟩
        go_wp2
        go_roundw
        case rel => exact ⟨k + 1, by omega, by go_num, by show World.ownsRow _ _ _ _ _ _ _; rw [HMT.out]; exact ho.out, hkr⟩
        case measure => simp [intOf]; omega
    · obtain rfl : k = xs.length := by omega
      rw [List.take_length] at ho
      have hM : maskOf xs < 2 ^ (64 * n) := by rw [HN.out]; exact mask_lt xs
      have c0 : wr.cell? ⟨w.heap.size, 0, none⟩ = some (.int .u64 0) := (hkr.cell (p := ⟨w.heap.size, 0, none⟩) (by simp; omega) (by simp)).trans R0.out
      have c1 : wr.cell? ⟨w.heap.size, 1, none⟩ = some (.slice none 0 0) := (hkr.cell (p := ⟨w.heap.size, 1, none⟩) (by simp; omega) (by simp)).trans R1.out
      have f0 : wr.frozen? ⟨w.heap.size, 0, none⟩ = false := (hkr.frozen (p := ⟨w.heap.size, 0, none⟩) (by simp; omega) (by simp)).trans (RF.out 0)
      have f1 : wr.frozen? ⟨w.heap.size, 1, none⟩ = false := (hkr.frozen (p := ⟨w.heap.size, 1, none⟩) (by simp; omega) (by simp)).trans (RF.out 1)
      have hwr : w.heap.size + 1 < wr.heap.size := Nat.lt_of_lt_of_le hAs hkr.size
      have hkw : Kept (fun _ => False) w wr := hkA.trans hkr (fun _ _ h => h) (fun i hi e => by omega)
      have C0 := Lib.hid c0; have C1 := Lib.hid c1; have F0 := Lib.hid f0; have F1 := Lib.hid f1; clear c0 c1 f0 f1
      have HM := Lib.hid hM; clear hM
      by_cases hn0 : n = 0
      · have HN0 := Lib.hid hn0; clear hn0
        have hM0 : maskOf xs = 0 := by have := HM.out; rw [HN0.out] at this; simpa using this
        have HM0 := Lib.hid hM0; clear hM0
        go_wp2_with fail
        rw [HN0.out]
        refine (pack_nil wr _ 0).mono ?_
        rintro e w1 ⟨rfl, hk1⟩
        have c0 := (hk1.cell (p := ⟨w.heap.size, 0, none⟩) (by simp; omega) (by simp)).trans C0.out
        have c1 := (hk1.cell (p := ⟨w.heap.size, 1, none⟩) (by simp; omega) (by simp)).trans C1.out
        have f0 := (hk1.frozen (p := ⟨w.heap.size, 0, none⟩) (by simp; omega) (by simp)).trans F0.out
        have f1 := (hk1.frozen (p := ⟨w.heap.size, 1, none⟩) (by simp; omega) (by simp)).trans F1.out
        go_wp2
        refine bodyPost_ret (v := .agg #[.int .u64 0, .slice none 0 0]) (by simp [results, Tryd.results12, go_sem, c0, c1]) rfl ⟨_, rfl, ?_, ?_, ?_⟩
        · rw [HM0.out]
          exact ⟨⟨_, [], rfl, Or.inl ⟨rfl, rfl⟩, ⟨rfl, by simp, Or.inl rfl⟩, fun _ => rfl⟩⟩
        · rintro k ⟨lo, hv, he, hb⟩
          cases he
          simp [Value.ownBlock] at hb
        · exact (hkw.trans hk1 (fun _ _ h => h) (fun _ _ h => h)).trans ((Kept.setCell (fun k => k = w.heap.size) _ ⟨w.heap.size, 0, none⟩ _ rfl).trans (Kept.setCell (fun k => k = w.heap.size) _ ⟨w.heap.size, 1, none⟩ _ rfl) (fun _ _ h => h) (fun _ _ h => h)) (fun _ _ h => h) (fun i hi e => by omega)
      · obtain ⟨m, hm⟩ : ∃ m, n = m + 1 := ⟨n - 1, by omega⟩
        clear hn0
        obtain ⟨lo, hlo⟩ : ∃ lo : Nat, lo = (wl (maskOf xs) n).getD 0 0 := ⟨_, rfl⟩
        have hcells : ∀ i, i < (wl (maskOf xs) n).length → wr.cell? ⟨w.heap.size + 1, 0 + i, none⟩ = some (.int .u64 ((wl (maskOf xs) n).getD i 0 : Nat)) := fun i hi => by
          rw [Nat.zero_add, ho.out.cellAt i (by rw [wl_length] at hi; omega), wv_getD _ _ hi]
        have HP := Lib.hid (pack_at wr (w.heap.size + 1) 0 n m (wl (maskOf xs) n) lo (by rw [wl_length, hm]) (by omega) (by unfold maxLen; omega) hwr hcells hlo)
        have HCE := Lib.hid hcells; clear hcells
        have HLO := Lib.hid hlo; clear hlo
        rw [← hm] at HP
        have HMM := Lib.hid hm; clear hm
        go_wp2_with fail
        refine HP.out.mono ?_
        rintro e w1 ⟨hv, rfl, hpr, hk1⟩
        have c0 := (hk1.cell (p := ⟨w.heap.size, 0, none⟩) (by simp; omega) (by simp)).trans C0.out
        have c1 := (hk1.cell (p := ⟨w.heap.size, 1, none⟩) (by simp; omega) (by simp)).trans C1.out
        have f0 := (hk1.frozen (p := ⟨w.heap.size, 0, none⟩) (by simp; omega) (by simp)).trans F0.out
        have f1 := (hk1.frozen (p := ⟨w.heap.size, 1, none⟩) (by simp; omega) (by simp)).trans F1.out
        obtain ⟨t, ht1, ht2, ht3, ht4⟩ := hpr.ex
        obtain ⟨a, c, hform⟩ := ht2.form
        have HT1 := Lib.hid ht1; have HT2 := Lib.hid ht2; have HT3 := Lib.hid ht3; have HT4 := Lib.hid ht4; clear ht1 ht2 ht3 ht4 hpr
        generalize (((wl (maskOf xs) n).drop 1).take t).length = tl at hform
        subst hform
        go_wp2
        refine bodyPost_ret (v := .agg #[.int .u64 lo, .slice a tl c]) (by simp [results, Tryd.results12, go_sem, c0, c1]) rfl ⟨_, rfl, ?_, ?_, ?_⟩
        · have hlo : lo = maskOf xs % 2 ^ 64 := by
            have := HMM.out
            rw [HLO.out, wl_getD _ _ _ (by omega)]
            simp
          have ht := HT1.out
          rw [wl_drop1] at ht
          have hM2 : maskOf xs / 2 ^ 64 < 2 ^ (64 * (n - 1)) := by
            refine Nat.div_lt_of_lt_mul ?_
            rw [← Nat.pow_add, show 64 + 64 * (n - 1) = 64 * n by have := HMM.out; omega]
            exact HM.out
          have hcan := ht.canon hM2
          rw [← wl_drop1] at hcan
          refine ⟨⟨_, _, by rw [hlo], HT2.out.kept ((Kept.setCell (fun k => k = w.heap.size) _ ⟨w.heap.size, 0, none⟩ _ rfl).trans (Kept.setCell (fun k => k = w.heap.size) _ ⟨w.heap.size, 1, none⟩ _ rfl) (fun _ _ h => h) (fun _ _ h => h)) ?_, hcan, ?_⟩⟩
          · intro k hk e
            rcases HT4.out with h4 | h4
            · rw [h4] at hk; cases hk
            · rw [h4] at hk; cases hk; omega
          · intro hnil
            refine HT3.out ?_
            have := congrArg List.length hnil
            have hle := HT1.out.le
            simp at this hle
            omega
        · rintro k ⟨lo', hv', he, hb⟩
          cases he
          rcases HT4.out with h4 | h4
          · rw [h4] at hb; cases hb
          · rw [h4] at hb; cases hb; omega
        · exact (hkw.trans hk1 (fun _ _ h => h) (fun _ _ h => h)).trans ((Kept.setCell (fun k => k = w.heap.size) _ ⟨w.heap.size, 0, none⟩ _ rfl).trans (Kept.setCell (fun k => k = w.heap.size) _ ⟨w.heap.size, 1, none⟩ _ rfl) (fun _ _ h => h) (fun _ _ h => h)) (fun _ _ h => h) (fun i hi e => by omega)

end Go.Proofs.YteaagllpkcpedaaDoor
