/-
  arbacref02: SetBytes, PutSet.
-/
import Derived.Test.YtljjhdfackicpaaDoorRefPut
namespace Go.Proofs.YtljjhdfackicpaaDoor
open Go.RowKit

theorem Fresh.mono {w : World} {B B' : Nat} {v : Value} {xs : List Nat} (h : Fresh w B v xs) (hB : B' ≤ B) : Fresh w B' v xs := by
  refine ⟨⟨h.own.1, ?_⟩, fun k hk => Nat.le_trans hB (h.block k hk)⟩
  rcases h.own.2 with e | ⟨g, cap, cur, e, hb, r⟩
  · exact Or.inl e
  · exact Or.inr ⟨g, cap, cur, e, Nat.le_trans hB hb, r⟩

theorem maskOf_take_in (xs : List Int) (k : Nat) (h : k < xs.length) (xn : Nat) (hx : xs.getD k 0 = (xn : Int)) (hle : xn ≤ 4095) : maskOf (xs.take (k + 1)) = maskOf (xs.take k) ||| 2 ^ xn := by
  rw [maskOf_take xs k h, hx, addM, if_pos (by omega), Int.toNat_natCast]

set_option maxRecDepth 100000 in
set_option maxHeartbeats 1600000 in
theorem setbytes_at (w : World) (g off cap : Nat) (xs : List Int) (hm : xs.length ≤ 9223372036854775807) (hg : g < w.heap.size) (hin : Hid (∀ i ∈ xs, 0 ≤ i ∧ i ≤ 4095)) (hc : Hid (∀ i, i < xs.length → w.cell? ⟨g, off + i, none⟩ = some (.int .i64 (xs.getD i 0)))) :
    Calls Tryd.prog 134 #[.slice (some ⟨g, off, none⟩) xs.length cap] w fun e w' => ∃ v', e = .returned v' ∧ Fresh w' w.heap.size v' (bytesOf (maskOf xs)) ∧ Kept (fun _ => False) w w' := by
  obtain ⟨i0, hi, hz0, hz1, hz2⟩ := info_parts info_u8b
  have hgb := gOf_bounds xs
  have hxin : Hid (∀ k, k < xs.length → ∃ xn : Nat, xs.getD k 0 = (xn : Int) ∧ xn ≤ 4095 ∧ (xn : Int) ≤ gOf xs) := fun k hk => by
    have hmem : xs.getD k 0 ∈ xs := by rw [List.getD_eq_getElem?_getD, List.getElem?_eq_getElem hk]; exact List.getElem_mem _
    obtain ⟨a, b⟩ := hin.out _ hmem
    have := gOf_ge xs _ hmem a b
    exact ⟨(xs.getD k 0).toNat, by omega, by omega, by omega⟩
  go_enter Tryd.func134, Tryd.ntmps134
  go_wp2_with fail
  go_loop [3, 11] (fun mv iv => ∃ k : Nat, k ≤ xs.length ∧ iv = .int .i64 k ∧ mv = .int .i64 (gOf (xs.take k))) (fun _ iv => xs.length - (intOf iv).toNat)
  case atStart => exact ⟨0, Nat.zero_le _, rfl, rfl⟩
  case round =>
    obtain ⟨k, hk, rfl, rfl⟩ := hrel
    by_cases hlt : k < xs.length
    · have ck := hc.out k hlt
      have hgt := gOf_take xs k hlt
      obtain ⟨xn, hx, hx1, hx2⟩ := hxin.out k hlt
      rw [hx] at ck hgt
      rw [if_pos (by omega)] at hgt
      have hlt' : (k : Int) < (xs.length : Int) := by omega
      have HG := Lib.hid hgt; clear hgt hx hx2
      generalize gOf (xs.take k) = m at HG ⊢
      by_cases hp : m < (xn : Int)
      · go_wp2_with fail
        go_round
        case rel => exact ⟨k + 1, by omega, by go_num, by rw [HG.out]; congr 1; omega⟩
        case measure => simp [intOf]; omega
      · have hp' : (xn : Int) ≤ m := by omega
        go_wp2_with fail
        go_round
        case rel => exact ⟨k + 1, by omega, by go_num, by rw [HG.out]; congr 1; omega⟩
        case measure => simp [intOf]; omega
    · obtain rfl : k = xs.length := by omega
      rw [List.take_length]
      by_cases hneg : gOf xs < 0
      · have h0 : bytesOf (maskOf xs) = [] := by rw [gOf_empty xs hneg]; exact if_pos rfl
        have H0 := Lib.hid h0; clear h0
        generalize gOf xs = G at hneg hgb hxin ⊢
        go_wp2_with fail
        go_ret
        rw [H0.out]
        exact ⟨_, rfl, ⟨World.ownsRow_nil _ _ _ _, by intro k hk; simp [Value.ownBlock] at hk⟩, Kept.refl _ _⟩
      · have hl := gOf_log2 xs (by omega)
        have hB : bytesOf (maskOf xs) = bl8 (maskOf xs) (Nat.log2 (maskOf xs) / 8 + 1) := if_neg hl.1
        rw [hl.2] at hB
        clear hl
        generalize gOf xs = G at hneg hgb hxin hB ⊢
        obtain ⟨T, rfl⟩ := Int.eq_ofNat_of_zero_le (show 0 ≤ G by omega)
        obtain ⟨N, hN⟩ : ∃ N, N = T / 8 + 1 := ⟨_, rfl⟩
        have hT : T < 4096 := by omega
        rw [Int.toNat_natCast, ← hN] at hB
        have HBB := Lib.hid hB; clear hB
        have hN512 : N ≤ 512 := by omega
        have e1 : ((T : Int) / 8 + 1) = (N : Int) := by omega
        have hT0 : (0 : Int) ≤ (T : Int) := by omega
        have HNN := Lib.hid hN; clear hN hneg hgb
        go_wp2_with (refine wpList_make_full _ rfl _ _ _ rfl w.heap.size 5 i0 _ 1 Tryd.underlying48 hi hz0 hz1 _ _ _ _ N rfl rfl rfl rfl (by rw [hz2]; omega) (by unfold maxLen; omega) (by omega) ?_)
        intro wA hownA hgrowA
        rw [bv_zero, ← bl8_zero] at hownA
        have hgA : w.heap.size < wA.heap.size := by
          obtain ⟨_, hh⟩ := hownA
          rcases hh with ⟨h, _⟩ | ⟨g', cap', cur, h, _, hg', _⟩
          · cases h
          · cases h; exact (Array.getElem?_eq_some_iff.1 hg').1
        have hkA : Kept (fun _ => False) w wA := Kept.ofGrown (S := fun _ => False) hgrowA (fun k e => by cases e)
        have HOA := Lib.hid hownA; clear hownA hgrowA
        go_wp2_with fail
        go_loopw [28] (fun iv wr => ∃ k : Nat, k ≤ xs.length ∧ iv = .int .i64 k ∧ Hid (wr.ownsRow w.heap.size 5 1 (.slice (some ⟨w.heap.size, 0, none⟩) N N) N (bv (bl8 (maskOf (xs.take k)) N))) ∧ Kept (fun k => k = w.heap.size) wA wr) (fun iv _ => xs.length - (intOf iv).toNat)
        case atStart => exact ⟨0, Nat.zero_le _, rfl, HOA.out, Kept.refl _ _⟩
        case round =>
          obtain ⟨k, hk, rfl, ho, hkr⟩ := hrel
          by_cases hlt : k < xs.length
          · have hlt' : (k : Int) < (xs.length : Int) := by omega
            obtain ⟨xn, hx, hx1, hx2⟩ := hxin.out k hlt
            have ck : wr.cell? ⟨g, off + k, none⟩ = some (.int .i64 xn) := by
              rw [← hx, hkr.cell (p := ⟨g, off + k, none⟩) (Nat.lt_of_lt_of_le hg hkA.size) (by simp; omega), hkA.cell (p := ⟨g, off + k, none⟩) hg (fun h => h)]
              exact hc.out k hlt
            have hmt := maskOf_take_in xs k hlt xn hx hx1
            obtain ⟨q, hqq⟩ : ∃ q : Nat, q = xn / 8 := ⟨_, rfl⟩
            obtain ⟨r, hr⟩ : ∃ r : Nat, r = xn % 8 := ⟨_, rfl⟩
            obtain ⟨b, hb⟩ : ∃ b : Nat, b = 2 ^ r := ⟨_, rfl⟩
            obtain ⟨y, hy⟩ : ∃ y : Nat, y = (bl8 (maskOf (xs.take k)) N).getD q 0 := ⟨_, rfl⟩
            obtain ⟨z, hz⟩ : ∃ z : Nat, z = y ||| b := ⟨_, rfl⟩
            have hqn : q < N := by have := HNN.out; omega
            have hxn0 : (0 : Int) ≤ (xn : Int) := by omega
            have hq : ((xn : Int) / 8) = (q : Int) := by omega
            have hq0 : (0 : Int) ≤ (q : Int) := by omega
            have hqw : IntKind.i64.wrap (q : Int) = (q : Int) := IntWalk.i64_in _ (by omega)
            have hq1 : (q : Int) < (N : Int) := by omega
            have hr1 : ((xn : Int) % 8) = (r : Int) := by omega
            have hrw : IntKind.u64.wrap (r : Int) = (r : Int) := IntWalk.u64_in _ (by omega)
            have hr0 : (0 : Int) ≤ (r : Int) := by omega
            have hr7 : (r : Int) ≤ 7 := by omega
            have hb256 : b < 256 := by
              rw [hb]
              have : (2 : Nat) ^ r < 2 ^ 8 := Nat.pow_lt_pow_right (by omega) (by omega)
              simpa using this
            have hbw : IntKind.u8.wrap (2 ^ r) = (b : Int) := by
              have e : ((2 : Int) ^ r) = ((2 ^ r : Nat) : Int) := by simp
              rw [e, ← hb, IntKind.wrap_u8']
              omega
            have cq : wr.cell? ⟨w.heap.size, q, none⟩ = some (.int .u8 y) := by
              rw [ho.out.cellAt q (by omega), bv_getD _ _ (by rw [bl8_length]; exact hqn), hy]
            have fq : wr.frozen? ⟨w.heap.size, q, none⟩ = false := ho.out.frozenAt q
            have hy256 : y < 256 := by
              rw [hy, bl8_getD _ _ _ hqn]
              exact Nat.mod_lt _ (by omega)
            have hor : bits .or .u8 (y : Int) (b : Int) = (z : Int) := by rw [hz]; exact u8_or_nat _ _ hy256 hb256
            have hfin : bv ((bl8 (maskOf (xs.take k)) N).set q z) = bv (bl8 (maskOf (xs.take (k + 1))) N) := by
              rw [hmt, ← bl8_or _ _ _ (by rw [← hqq]; exact hqn), ← hqq, ← hr, ← hb, ← hy, ← hz]
            have HF := Lib.hid hfin; clear hfin
            have HB := Lib.hid hb; clear hb
            clear hmt hy hz hqq hy256 hb256 hr hx hx2
            go_wp2_with fail
            go_roundw
            case rel =>
              have hst := ho.out.stored q (.int .u8 (z : Int))
              rw [bv_set, HF.out] at hst
              exact ⟨k + 1, by omega, by go_num, hst.1, hkr.trans (Kept.setCell (fun k => k = w.heap.size) _ _ _ rfl) (fun _ _ h => h) (fun _ _ h => h)⟩
            case measure => simp [intOf]; omega
          · obtain rfl : k = xs.length := by omega
            rw [List.take_length] at ho
            go_wp2_with fail
            go_ret
            rw [HBB.out]
            refine ⟨_, rfl, ⟨?_, ?_⟩, hkA.trans hkr (fun _ _ h => h) (fun i hi e => by omega)⟩
            · rw [bl8_length]; exact ho.out
            · intro j hj; simp [Value.ownBlock] at hj; omega

set_option maxRecDepth 100000 in
set_option maxHeartbeats 400000 in
theorem setbytes_nil (w : World) :
    Calls Tryd.prog 134 #[.slice none 0 0] w fun e w' => e = .returned (.slice none 0 0) ∧ w = w' := by
  go_enter Tryd.func134, Tryd.ntmps134
  go_wp2_with fail
  go_loop [3, 11] (fun mv iv => iv = .int .i64 0 ∧ mv = .int .i64 (-1)) (fun _ _ => 0)
  case atStart => exact ⟨rfl, rfl⟩
  case round =>
    obtain ⟨rfl, rfl⟩ := hrel
    go_wp2_with fail
    go_ret
    exact ⟨rfl, rfl⟩

theorem setbytes_any (w : World) (v : Value) (xs : List Int) (h : Ints w v xs) (hin : ∀ i ∈ xs, 0 ≤ i ∧ i ≤ 4095) :
    Calls Tryd.prog 134 #[v] w fun e w' => ∃ v', e = .returned v' ∧ Fresh w' w.heap.size v' (bytesOf (maskOf xs)) ∧ Kept (fun _ => False) w w' := by
  rcases h with ⟨rfl, rfl⟩ | ⟨g, off, cap, rfl, h1, h2, h3, h4⟩
  · refine (setbytes_nil w).mono ?_
    rintro e w' ⟨rfl, rfl⟩
    exact ⟨_, rfl, ⟨World.ownsRow_nil _ _ _ _, by intro k hk; simp [Value.ownBlock] at hk⟩, Kept.refl _ _⟩
  · exact setbytes_at w g off cap xs (by unfold maxLen at h2; omega) h3 hin h4

theorem bytesOf_length {M : Nat} (h : Small M) : (bytesOf M).length ≤ 512 := by
  unfold bytesOf
  split
  · simp
  · rename_i h0
    have := log2_small h h0
    rw [bl8_length]; omega

set_option maxRecDepth 100000 in
set_option maxHeartbeats 400000 in
theorem putset_any (w : World) (v : Value) (xs : List Int) (h : Ints w v xs) (hin : ∀ i ∈ xs, 0 ≤ i ∧ i ≤ 4095) :
    Calls Tryd.prog 110 #[v] w fun e w' => ∃ v', e = .returned v' ∧ Fresh w' w.heap.size v' (enc (bytesOf (maskOf xs)).length ++ bytesOf (maskOf xs)) ∧ Kept (fun _ => False) w w' := by
  have HI := Lib.hid hin; clear hin
  have hl := bytesOf_length (maskOf_small xs)
  have HL := Lib.hid hl; clear hl
  have HH := Lib.hid h; clear h
  go_enter Tryd.func110, Tryd.ntmps110
  go_wp2_with fail
  refine (setbytes_any w v xs HH.out HI.out).mono ?_
  rintro e w1 ⟨v1, rfl, hf, hk⟩
  have HF := Lib.hid hf; clear hf
  have hsz := hk.size
  go_wp2_with fail
  refine (putbytes_any v1 _ w1 HF.out.reads (by have := HL.out; omega)).mono ?_
  rintro e w2 ⟨v2, rfl, hf2, hk2⟩
  have HF2 := Lib.hid hf2; clear hf2
  go_wp2_with fail
  go_ret
  exact ⟨_, rfl, HF2.out.mono hsz, hk.then hk2⟩

end Go.Proofs.YtljjhdfackicpaaDoor
