/-
  bits.Set.Or.
-/
import Derived.Test.YteaagllpkcpedaaGreatDoorBMi
namespace Go.Proofs.YteaagllpkcpedaaGreatDoor
open Go.RowKit

set_option maxRecDepth 100000 in
set_option maxHeartbeats 3200000 in
theorem or_b (w : World) (M K : Nat) (a1 : Option Addr) (c1 : Nat) (hs ks : List Nat) (a2 : Option Addr) (c2 : Nat) (hw : Words w (.slice a1 hs.length c1) hs) (hc : Canon hs (M / 2 ^ 64)) (hl : hs.length ≤ 63)
    (hw2 : Words w (.slice a2 ks.length c2) ks) (hc2 : Canon ks (K / 2 ^ 64)) (hl2 : ks.length ≤ 63) (hpos : 0 < ks.length) (hle : ks.length ≤ hs.length) :
    Calls Tryz.prog 10 #[.agg #[.int .u64 (M % 2 ^ 64 : Nat), .slice a1 hs.length c1], .agg #[.int .u64 (K % 2 ^ 64 : Nat), .slice a2 ks.length c2]] w fun e w' => ∃ v', e = .returned v' ∧ SetV w' v' ((M ||| K)) ∧ (∀ k, setBlk v' k → w.heap.size ≤ k) ∧ Kept (fun _ => False) w w' := by
  obtain ⟨n, hn⟩ : ∃ n, n = hs.length := ⟨_, rfl⟩
  obtain ⟨m, hm⟩ : ∃ n, n = ks.length := ⟨_, rfl⟩
  obtain ⟨lo1, hl1⟩ : ∃ l, l = M % 2 ^ 64 := ⟨_, rfl⟩
  obtain ⟨lo2, hl2'⟩ : ∃ l, l = K % 2 ^ 64 := ⟨_, rfl⟩
  obtain ⟨z, hz⟩ : ∃ z, z = lo1 ||| lo2 := ⟨_, rfl⟩
  have hl1b : lo1 < 18446744073709551616 := by rw [hl1]; exact Nat.mod_lt _ (by decide)
  have hl2b : lo2 < 18446744073709551616 := by rw [hl2']; exact Nat.mod_lt _ (by decide)
  have hx : bits .or .u64 (lo1 : Int) (lo2 : Int) = (z : Int) := by rw [hz]; exact u64_or_nat _ _ hl1b hl2b
  have hx2 : bits .or .u64 (lo2 : Int) (lo1 : Int) = (z : Int) := by rw [hz, u64_or_nat _ _ hl2b hl1b, Nat.or_comm]
  have hzm : z = (M ||| K) % 2 ^ 64 := by rw [mod_or, hz, hl1, hl2']
  obtain ⟨g, hg⟩ : ∃ g : Nat → Nat, g = fun j => wordN (M / 2 ^ 64) j ||| wordN (K / 2 ^ 64) j := ⟨_, rfl⟩
  obtain ⟨h, hh⟩ : ∃ h : Nat → Nat, h = wordN (M / 2 ^ 64) := ⟨_, rfl⟩
  have hgw : ∀ j, g j = wordN ((M ||| K) / 2 ^ 64) j := fun j => by rw [hg, div_or, wordN_or]
  have hgh : ∀ j, m ≤ j → g j = h j := fun j hj => by
    rw [hg, hh]
    show _ ||| (wordN (K / 2 ^ 64) j) = _
    rw [canon_word hc2 j (by omega), Nat.or_zero]
  have hst : wv hs = wv (mixG g h n 0) := by
    rw [mixG_zero, hh, ← wl_word, hn]
    congr 1
    exact hc.eq
  have hend : ∀ k, (m ≤ k ∨ n ≤ k) → mixG g h n k = wl ((M ||| K) / 2 ^ 64) n := fun k hk => by
    rw [mixG_end g h n k (fun j h1 h2 => hgh j (by omega)), wl_word]
    exact List.map_congr_left fun j _ => hgw j
  have hcan : Canon (wl ((M ||| K) / 2 ^ 64) n) ((M ||| K) / 2 ^ 64) := by
    rw [div_or, hn]
    exact canon_or hc hc2 (by omega)
  have hk2 : ∀ i, i < m → ∃ gg off, a2 = some ⟨gg, off, none⟩ ∧ gg < w.heap.size ∧ w.cell? ⟨gg, off + i, none⟩ = some (.int .u64 (wordN (K / 2 ^ 64) i : Nat)) := fun i hi => by
    obtain ⟨a, c, e, _, hcell⟩ := words_form hw2
    cases e
    obtain ⟨gg, off, e1, e2, e3⟩ := hcell i (by omega)
    exact ⟨gg, off, e1, e2, by rw [e3, canon_getD hc2 i (by omega)]⟩
  rw [← hl1, ← hl2']
  rw [← hn] at hw hl hle ⊢
  rw [← hm] at hw2 hl2 hpos hle ⊢
  have hwlt := hw.lt
  have HW := Lib.hid hw; have HCAN := Lib.hid hcan; have HZ := Lib.hid hzm; have HST := Lib.hid hst; have HEND := Lib.hid hend; have HK2 := Lib.hid hk2; have HNN := Lib.hid hn
  have HG := Lib.hid hg; have HHH := Lib.hid hh
  have BX := Lib.hid (Bx.new w lo1 lo2 a1 n c1 a2 m c2)
  unfold bxW at BX
  clear hw hw2 hcan hzm hz hl1 hl2' hl1b hl2b hc hc2 hm hgw hgh hst hend hk2 hg hh hn
  have hp : (0 : Int) < (m : Int) := by omega
  have hnm : ¬ (n : Int) < (m : Int) := by omega
  go_enter Tryz.func10, Tryz.ntmps10
  go_wp2_with fail
  obtain ⟨wS, hwS⟩ : ∃ W, W = ((w.alloc (.cells #[.int .u64 lo1, .slice a1 n c1] 28)).alloc (.cells #[.int .u64 lo2, .slice a2 m c2] 28)).alloc (.cells #[.int .u64 0, .slice none 0 0] 28) := ⟨_, rfl⟩
  rw [← hwS] at BX ⊢
  clear hwS
  refine (uclone_any _ hs _ (HW.out.kept BX.out.kept (fun _ _ h => h)) (by have := HNN.out; omega)).mono ?_
  rintro e w1 ⟨v', rfl, hown, hk1⟩
  have hb := BX.out.on hk1 (fun _ _ h => h)
  have hA2 : w.heap.size + 2 < wS.heap.size := BX.out.lt
  rw [← HNN.out, HST.out] at hown
  obtain ⟨⟨a', c', rfl⟩, hbase⟩ := row_form2 hown
  generalize wS.heap.size = base at hown hbase hA2
  have HB1 := Lib.hid hb; have HO1 := Lib.hid hown; have HBASE := Lib.hid hbase
  obtain ⟨b0, b1, b2, b3, b4, b5, b6, b7, b8, b9⟩ := hb
  clear hk1 hown hbase BX b4 b5 b6 b7 b9
  go_wp2_with fail
  go_loopw [28] (fun iv wr => ∃ k : Nat, k ≤ m ∧ iv = .int .i64 k ∧ Hid (wr.ownsRow base 25 1 (.slice a' n c') n (wv (mixG g h n k))) ∧ Hid (Kept (fun k => (Value.slice a' n c').ownBlock = some k) w1 wr)) (fun iv _ => m - (intOf iv).toNat)
  case atStart => exact ⟨0, Nat.zero_le _, rfl, HO1.out, Kept.refl _ _⟩
  case round =>
    obtain ⟨k, hk, rfl, ho, hkr⟩ := hrel
    have hb := HB1.out.on hkr.out (fun k hk e => by have := HBASE.out k e; omega)
    clear b0 b1 b2 b3 b8
    obtain ⟨b0, b1, b2, b3, b4, b5, b6, b7, b8, b9⟩ := hb
    have HBR := Lib.hid (⟨b0, b1, b2, b3, b4, b5, b6, b7, b8, b9⟩ : Bx w wr lo1 lo2 (.slice a1 n c1) (.slice a2 m c2))
    by_cases hlt : k < m
    · have hkn : k < n := by omega
      have hkm : k < m := by omega
      obtain ⟨gb, hgb⟩ := row_slice2 ho.out (by omega)
      subst hgb
      obtain ⟨g2, off2, ha2, hg2, hc2⟩ := HK2.out k hkm
      subst ha2
      have hlt2 : (k : Int) < (n : Int) := by omega
      have hlt3 : (k : Int) < (m : Int) := by omega
      have hk0 : (0 : Int) ≤ (k : Int) := by omega
      have ck := (b9.cell (p := ⟨g2, off2 + k, none⟩) hg2 (fun h => h)).trans hc2
      have hgk : g k = h k ||| wordN (K / 2 ^ 64) k := by rw [HG.out, HHH.out]
      have hyl : h k < 18446744073709551616 := by rw [HHH.out]; exact wordN_lt _ _
      have hand : bits .or .u64 (h k : Int) (wordN (K / 2 ^ 64) k : Int) = (g k : Int) := by rw [hgk]; exact u64_or_nat _ _ hyl (wordN_lt _ _)
      have cq : wr.cell? ⟨gb, k, none⟩ = some (.int .u64 (h k : Nat)) := by
        rw [ho.out.cellAt k (by omega), wv_getD _ _ (by rw [mixG_length]; exact hkn), mixG_getD _ _ _ _ hkn]
      have fq : wr.frozen? ⟨gb, k, none⟩ = false := ho.out.frozenAt k
      have hst := ho.out.stored k (.int .u64 (g k : Nat))
      rw [wv_set, mixG_set _ _ n k hkn] at hst
      have HSTK := Lib.hid hst.1
      generalize h k = y at cq hand
      generalize wordN (K / 2 ^ 64) k = zz at ck hand
      generalize g k = r at hand HSTK
      clear hgk hyl hst hc2 b4 b5 b6 b7 b9
      go_wp2_with fail
      go_region
      all_goals
        go_wp2
        go_roundw
        case rel => exact ⟨k + 1, by omega, by go_num, HSTK.out, Lib.hid (hkr.out.trans (Kept.setCell (fun k => (Value.slice (some ⟨gb, 0, none⟩) n c').ownBlock = some k) wr ⟨gb, k, none⟩ (.int .u64 (r : Int)) rfl).drew (fun _ _ h => h) (fun _ _ h => h))⟩
        case measure => simp [intOf]; omega
    · have hkn : k = m := by omega
      have hen := HEND.out k (by omega)
      have hx1 : ¬ (k : Int) < (m : Int) := by omega
      have ho2 := ho.out
      rw [hen] at ho2
      have hwd := words_row ho2
      have HWD := Lib.hid hwd
      clear ho hkr hen ho2 hwd HO1 b9 hkn
      go_wp2_with fail
      have KS : Kept (fun k => k = w.heap.size + 1 + 1) wr ((wr.setCell ⟨w.heap.size + 1 + 1, 0, none⟩ (.int .u64 (z : Int))).setCell ⟨w.heap.size + 1 + 1, 1, none⟩ (.slice a' n c')) :=
        (Kept.setCell (fun k => k = w.heap.size + 1 + 1) _ ⟨w.heap.size + 1 + 1, 0, none⟩ _ rfl).trans (Kept.setCell (fun k => k = w.heap.size + 1 + 1) _ ⟨w.heap.size + 1 + 1, 1, none⟩ _ rfl) (fun _ _ h => h) (fun _ _ h => h)
      refine bodyPost_ret (v := .agg #[.int .u64 z, .slice a' n c']) (by simp [results, Tryz.results10, go_sem, b4, b5]) rfl ⟨_, rfl, ⟨⟨_, _, by rw [HZ.out], HWD.out.kept KS (fun k hk e => by have := HBASE.out k hk; omega), HCAN.out, fun hnil => ?_⟩⟩, ?_, HBR.out.fin _ _⟩
      · have := congrArg List.length hnil
        rw [wl_length, List.length_nil] at this
        omega
      · rintro k ⟨lo, hv, he, hb⟩
        cases he
        have := HBASE.out k hb
        omega

set_option maxRecDepth 100000 in
set_option maxHeartbeats 3200000 in
theorem or_d (w : World) (M K : Nat) (a1 : Option Addr) (c1 : Nat) (hs ks : List Nat) (a2 : Option Addr) (c2 : Nat) (hw : Words w (.slice a1 hs.length c1) hs) (hc : Canon hs (M / 2 ^ 64)) (hl : hs.length ≤ 63)
    (hw2 : Words w (.slice a2 ks.length c2) ks) (hc2 : Canon ks (K / 2 ^ 64)) (hl2 : ks.length ≤ 63) (hpos : 0 < ks.length) (hle : ks.length < hs.length) :
    Calls Tryz.prog 10 #[.agg #[.int .u64 (K % 2 ^ 64 : Nat), .slice a2 ks.length c2], .agg #[.int .u64 (M % 2 ^ 64 : Nat), .slice a1 hs.length c1]] w fun e w' => ∃ v', e = .returned v' ∧ SetV w' v' ((M ||| K)) ∧ (∀ k, setBlk v' k → w.heap.size ≤ k) ∧ Kept (fun _ => False) w w' := by
  obtain ⟨n, hn⟩ : ∃ n, n = hs.length := ⟨_, rfl⟩
  obtain ⟨m, hm⟩ : ∃ n, n = ks.length := ⟨_, rfl⟩
  obtain ⟨lo1, hl1⟩ : ∃ l, l = M % 2 ^ 64 := ⟨_, rfl⟩
  obtain ⟨lo2, hl2'⟩ : ∃ l, l = K % 2 ^ 64 := ⟨_, rfl⟩
  obtain ⟨z, hz⟩ : ∃ z, z = lo1 ||| lo2 := ⟨_, rfl⟩
  have hl1b : lo1 < 18446744073709551616 := by rw [hl1]; exact Nat.mod_lt _ (by decide)
  have hl2b : lo2 < 18446744073709551616 := by rw [hl2']; exact Nat.mod_lt _ (by decide)
  have hx : bits .or .u64 (lo1 : Int) (lo2 : Int) = (z : Int) := by rw [hz]; exact u64_or_nat _ _ hl1b hl2b
  have hx2 : bits .or .u64 (lo2 : Int) (lo1 : Int) = (z : Int) := by rw [hz, u64_or_nat _ _ hl2b hl1b, Nat.or_comm]
  have hzm : z = (M ||| K) % 2 ^ 64 := by rw [mod_or, hz, hl1, hl2']
  obtain ⟨g, hg⟩ : ∃ g : Nat → Nat, g = fun j => wordN (M / 2 ^ 64) j ||| wordN (K / 2 ^ 64) j := ⟨_, rfl⟩
  obtain ⟨h, hh⟩ : ∃ h : Nat → Nat, h = wordN (M / 2 ^ 64) := ⟨_, rfl⟩
  have hgw : ∀ j, g j = wordN ((M ||| K) / 2 ^ 64) j := fun j => by rw [hg, div_or, wordN_or]
  have hgh : ∀ j, m ≤ j → g j = h j := fun j hj => by
    rw [hg, hh]
    show _ ||| (wordN (K / 2 ^ 64) j) = _
    rw [canon_word hc2 j (by omega), Nat.or_zero]
  have hst : wv hs = wv (mixG g h n 0) := by
    rw [mixG_zero, hh, ← wl_word, hn]
    congr 1
    exact hc.eq
  have hend : ∀ k, (m ≤ k ∨ n ≤ k) → mixG g h n k = wl ((M ||| K) / 2 ^ 64) n := fun k hk => by
    rw [mixG_end g h n k (fun j h1 h2 => hgh j (by omega)), wl_word]
    exact List.map_congr_left fun j _ => hgw j
  have hcan : Canon (wl ((M ||| K) / 2 ^ 64) n) ((M ||| K) / 2 ^ 64) := by
    rw [div_or, hn]
    exact canon_or hc hc2 (by omega)
  have hk2 : ∀ i, i < m → ∃ gg off, a2 = some ⟨gg, off, none⟩ ∧ gg < w.heap.size ∧ w.cell? ⟨gg, off + i, none⟩ = some (.int .u64 (wordN (K / 2 ^ 64) i : Nat)) := fun i hi => by
    obtain ⟨a, c, e, _, hcell⟩ := words_form hw2
    cases e
    obtain ⟨gg, off, e1, e2, e3⟩ := hcell i (by omega)
    exact ⟨gg, off, e1, e2, by rw [e3, canon_getD hc2 i (by omega)]⟩
  rw [← hl1, ← hl2']
  rw [← hn] at hw hl hle ⊢
  rw [← hm] at hw2 hl2 hpos hle ⊢
  have hwlt := hw.lt
  have HW := Lib.hid hw; have HCAN := Lib.hid hcan; have HZ := Lib.hid hzm; have HST := Lib.hid hst; have HEND := Lib.hid hend; have HK2 := Lib.hid hk2; have HNN := Lib.hid hn
  have HG := Lib.hid hg; have HHH := Lib.hid hh
  have BX := Lib.hid (Bx.new w lo1 lo2 a1 n c1 a2 m c2)
  unfold bxW at BX
  clear hw hw2 hcan hzm hz hl1 hl2' hl1b hl2b hc hc2 hm hgw hgh hst hend hk2 hg hh hn
  have hp : (0 : Int) < (m : Int) := by omega
  have hnm : (m : Int) < (n : Int) := by omega
  go_enter Tryz.func10, Tryz.ntmps10
  go_wp2_with fail
  obtain ⟨wS, hwS⟩ : ∃ W, W = ((w.alloc (.cells #[.int .u64 lo1, .slice a1 n c1] 28)).alloc (.cells #[.int .u64 lo2, .slice a2 m c2] 28)).alloc (.cells #[.int .u64 0, .slice none 0 0] 28) := ⟨_, rfl⟩
  rw [← hwS] at BX ⊢
  clear hwS
  refine (uclone_any _ hs _ (HW.out.kept BX.out.kept (fun _ _ h => h)) (by have := HNN.out; omega)).mono ?_
  rintro e w1 ⟨v', rfl, hown, hk1⟩
  have hb := BX.out.on hk1 (fun _ _ h => h)
  have hA2 : w.heap.size + 2 < wS.heap.size := BX.out.lt
  rw [← HNN.out, HST.out] at hown
  obtain ⟨⟨a', c', rfl⟩, hbase⟩ := row_form2 hown
  generalize wS.heap.size = base at hown hbase hA2
  have HB1 := Lib.hid hb; have HO1 := Lib.hid hown; have HBASE := Lib.hid hbase
  obtain ⟨b0, b1, b2, b3, b4, b5, b6, b7, b8, b9⟩ := hb
  clear hk1 hown hbase BX b4 b5 b6 b7 b9
  go_wp2_with fail
  go_loopw [28] (fun iv wr => ∃ k : Nat, k ≤ m ∧ iv = .int .i64 k ∧ Hid (wr.ownsRow base 25 1 (.slice a' n c') n (wv (mixG g h n k))) ∧ Hid (Kept (fun k => (Value.slice a' n c').ownBlock = some k) w1 wr)) (fun iv _ => m - (intOf iv).toNat)
  case atStart => exact ⟨0, Nat.zero_le _, rfl, HO1.out, Kept.refl _ _⟩
  case round =>
    obtain ⟨k, hk, rfl, ho, hkr⟩ := hrel
    have hb := HB1.out.on hkr.out (fun k hk e => by have := HBASE.out k e; omega)
    clear b0 b1 b2 b3 b8
    obtain ⟨b0, b1, b2, b3, b4, b5, b6, b7, b8, b9⟩ := hb
    have HBR := Lib.hid (⟨b0, b1, b2, b3, b4, b5, b6, b7, b8, b9⟩ : Bx w wr lo1 lo2 (.slice a1 n c1) (.slice a2 m c2))
    by_cases hlt : k < m
    · have hkn : k < n := by omega
      have hkm : k < m := by omega
      obtain ⟨gb, hgb⟩ := row_slice2 ho.out (by omega)
      subst hgb
      obtain ⟨g2, off2, ha2, hg2, hc2⟩ := HK2.out k hkm
      subst ha2
      have hlt2 : (k : Int) < (n : Int) := by omega
      have hlt3 : (k : Int) < (m : Int) := by omega
      have hk0 : (0 : Int) ≤ (k : Int) := by omega
      have ck := (b9.cell (p := ⟨g2, off2 + k, none⟩) hg2 (fun h => h)).trans hc2
      have hgk : g k = h k ||| wordN (K / 2 ^ 64) k := by rw [HG.out, HHH.out]
      have hyl : h k < 18446744073709551616 := by rw [HHH.out]; exact wordN_lt _ _
      have hand : bits .or .u64 (h k : Int) (wordN (K / 2 ^ 64) k : Int) = (g k : Int) := by rw [hgk]; exact u64_or_nat _ _ hyl (wordN_lt _ _)
      have cq : wr.cell? ⟨gb, k, none⟩ = some (.int .u64 (h k : Nat)) := by
        rw [ho.out.cellAt k (by omega), wv_getD _ _ (by rw [mixG_length]; exact hkn), mixG_getD _ _ _ _ hkn]
      have fq : wr.frozen? ⟨gb, k, none⟩ = false := ho.out.frozenAt k
      have hst := ho.out.stored k (.int .u64 (g k : Nat))
      rw [wv_set, mixG_set _ _ n k hkn] at hst
      have HSTK := Lib.hid hst.1
      generalize h k = y at cq hand
      generalize wordN (K / 2 ^ 64) k = zz at ck hand
      generalize g k = r at hand HSTK
      clear hgk hyl hst hc2 b4 b5 b6 b7 b9
      go_wp2_with fail
      go_region
      all_goals
        go_wp2
        go_roundw
        case rel => exact ⟨k + 1, by omega, by go_num, HSTK.out, Lib.hid (hkr.out.trans (Kept.setCell (fun k => (Value.slice (some ⟨gb, 0, none⟩) n c').ownBlock = some k) wr ⟨gb, k, none⟩ (.int .u64 (r : Int)) rfl).drew (fun _ _ h => h) (fun _ _ h => h))⟩
        case measure => simp [intOf]; omega
    · have hkn : k = m := by omega
      have hen := HEND.out k (by omega)
      have hx1 : ¬ (k : Int) < (m : Int) := by omega
      have ho2 := ho.out
      rw [hen] at ho2
      have hwd := words_row ho2
      have HWD := Lib.hid hwd
      clear ho hkr hen ho2 hwd HO1 b9 hkn
      go_wp2_with fail
      have KS : Kept (fun k => k = w.heap.size + 1 + 1) wr ((wr.setCell ⟨w.heap.size + 1 + 1, 0, none⟩ (.int .u64 (z : Int))).setCell ⟨w.heap.size + 1 + 1, 1, none⟩ (.slice a' n c')) :=
        (Kept.setCell (fun k => k = w.heap.size + 1 + 1) _ ⟨w.heap.size + 1 + 1, 0, none⟩ _ rfl).trans (Kept.setCell (fun k => k = w.heap.size + 1 + 1) _ ⟨w.heap.size + 1 + 1, 1, none⟩ _ rfl) (fun _ _ h => h) (fun _ _ h => h)
      refine bodyPost_ret (v := .agg #[.int .u64 z, .slice a' n c']) (by simp [results, Tryz.results10, go_sem, b4, b5]) rfl ⟨_, rfl, ⟨⟨_, _, by rw [HZ.out], HWD.out.kept KS (fun k hk e => by have := HBASE.out k hk; omega), HCAN.out, fun hnil => ?_⟩⟩, ?_, HBR.out.fin _ _⟩
      · have := congrArg List.length hnil
        rw [wl_length, List.length_nil] at this
        omega
      · rintro k ⟨lo, hv, he, hb⟩
        cases he
        have := HBASE.out k hb
        omega

set_option maxRecDepth 100000 in
set_option maxHeartbeats 3200000 in
theorem or_a (w : World) (M K : Nat) (a1 : Option Addr) (c1 : Nat) (hs : List Nat) (a2 : Option Addr) (c2 : Nat) (hw : Words w (.slice a1 hs.length c1) hs) (hc : Canon hs (M / 2 ^ 64)) (hK : K / 2 ^ 64 = 0) (hnil : hs = [] → (Value.slice a1 hs.length c1) = .slice none 0 0) :
    Calls Tryz.prog 10 #[.agg #[.int .u64 (M % 2 ^ 64 : Nat), .slice a1 hs.length c1], .agg #[.int .u64 (K % 2 ^ 64 : Nat), .slice a2 0 c2]] w fun e w' => ∃ v', e = .returned v' ∧ SetV w' v' (M ||| K) ∧ (∀ k, setBlk v' k → (Value.slice a1 hs.length c1).ownBlock = some k) ∧ Kept (fun _ => False) w w' := by
  obtain ⟨n, hn⟩ : ∃ n, n = hs.length := ⟨_, rfl⟩
  obtain ⟨lo1, hl1⟩ : ∃ l, l = M % 2 ^ 64 := ⟨_, rfl⟩
  obtain ⟨lo2, hl2⟩ : ∃ l, l = K % 2 ^ 64 := ⟨_, rfl⟩
  obtain ⟨z, hz⟩ : ∃ z, z = lo1 ||| lo2 := ⟨_, rfl⟩
  have hl1b : lo1 < 18446744073709551616 := by rw [hl1]; exact Nat.mod_lt _ (by decide)
  have hl2b : lo2 < 18446744073709551616 := by rw [hl2]; exact Nat.mod_lt _ (by decide)
  have hx : bits .or .u64 (lo1 : Int) (lo2 : Int) = (z : Int) := by rw [hz]; exact u64_or_nat _ _ hl1b hl2b
  have hzm : z = (M ||| K) % 2 ^ 64 := by rw [mod_or, hz, hl1, hl2]
  have hdv : (M ||| K) / 2 ^ 64 = M / 2 ^ 64 := by rw [div_or, hK, Nat.or_zero]
  have hcan : Canon hs ((M ||| K) / 2 ^ 64) := by rw [hdv]; exact hc
  rw [← hl1, ← hl2]
  rw [← hn] at hw hnil ⊢
  have hwlt := hw.lt
  have HW := Lib.hid hw; have HC := Lib.hid hcan; have HZ := Lib.hid hzm; have HNIL := Lib.hid hnil
  clear hw hcan hzm hz hl1 hl2 hl1b hl2b hdv hc hn hK hnil
  have hnm : ¬ (n : Int) < (0 : Int) := by omega
  go_enter Tryz.func10, Tryz.ntmps10
  go_wp2_with fail
  have KS : Kept (fun _ => False) w (((w.alloc (.cells #[.int .u64 lo1, .slice a1 n c1] 28)).alloc (.cells #[.int .u64 lo2, .slice a2 0 c2] 28)).alloc (.cells #[.int .u64 z, .slice a1 n c1] 28)) := ((Kept.alloc _ _ _).then (Kept.alloc _ _ _)).then (Kept.alloc _ _ _)
  refine bodyPost_ret (v := .agg #[.int .u64 z, .slice a1 n c1]) (by simp [results, Tryz.results10, go_sem]) rfl ⟨_, rfl, ⟨⟨_, _, by rw [HZ.out], HW.out.kept KS (fun _ _ h => h), HC.out, HNIL.out⟩⟩, ?_, KS⟩
  rintro k ⟨lo, hv, he, hb⟩
  cases he
  exact hb

set_option maxRecDepth 100000 in
set_option maxHeartbeats 3200000 in
theorem or_c (w : World) (M K : Nat) (a1 : Option Addr) (c1 : Nat) (hs : List Nat) (a2 : Option Addr) (c2 : Nat) (hw : Words w (.slice a1 hs.length c1) hs) (hc : Canon hs (M / 2 ^ 64)) (hK : K / 2 ^ 64 = 0) (hnil : hs = [] → (Value.slice a1 hs.length c1) = .slice none 0 0) (hpos : 0 < hs.length) :
    Calls Tryz.prog 10 #[.agg #[.int .u64 (K % 2 ^ 64 : Nat), .slice a2 0 c2], .agg #[.int .u64 (M % 2 ^ 64 : Nat), .slice a1 hs.length c1]] w fun e w' => ∃ v', e = .returned v' ∧ SetV w' v' (M ||| K) ∧ (∀ k, setBlk v' k → (Value.slice a1 hs.length c1).ownBlock = some k) ∧ Kept (fun _ => False) w w' := by
  obtain ⟨n, hn⟩ : ∃ n, n = hs.length := ⟨_, rfl⟩
  obtain ⟨lo1, hl1⟩ : ∃ l, l = M % 2 ^ 64 := ⟨_, rfl⟩
  obtain ⟨lo2, hl2⟩ : ∃ l, l = K % 2 ^ 64 := ⟨_, rfl⟩
  obtain ⟨z, hz⟩ : ∃ z, z = lo1 ||| lo2 := ⟨_, rfl⟩
  have hl1b : lo1 < 18446744073709551616 := by rw [hl1]; exact Nat.mod_lt _ (by decide)
  have hl2b : lo2 < 18446744073709551616 := by rw [hl2]; exact Nat.mod_lt _ (by decide)
  have hx : bits .or .u64 (lo1 : Int) (lo2 : Int) = (z : Int) := by rw [hz]; exact u64_or_nat _ _ hl1b hl2b
  have hzm : z = (M ||| K) % 2 ^ 64 := by rw [mod_or, hz, hl1, hl2]
  have hdv : (M ||| K) / 2 ^ 64 = M / 2 ^ 64 := by rw [div_or, hK, Nat.or_zero]
  have hcan : Canon hs ((M ||| K) / 2 ^ 64) := by rw [hdv]; exact hc
  rw [← hl1, ← hl2]
  rw [← hn] at hw hnil hpos ⊢
  have hwlt := hw.lt
  have HW := Lib.hid hw; have HC := Lib.hid hcan; have HZ := Lib.hid hzm; have HNIL := Lib.hid hnil
  clear hw hcan hzm hz hl1 hl2 hl1b hl2b hdv hc hn hK hnil
  have hnm : (0 : Int) < (n : Int) := by omega
  go_enter Tryz.func10, Tryz.ntmps10
  go_wp2_with fail
  have KS : Kept (fun _ => False) w (((w.alloc (.cells #[.int .u64 lo1, .slice a1 n c1] 28)).alloc (.cells #[.int .u64 lo2, .slice a2 0 c2] 28)).alloc (.cells #[.int .u64 z, .slice a1 n c1] 28)) := ((Kept.alloc _ _ _).then (Kept.alloc _ _ _)).then (Kept.alloc _ _ _)
  refine bodyPost_ret (v := .agg #[.int .u64 z, .slice a1 n c1]) (by simp [results, Tryz.results10, go_sem]) rfl ⟨_, rfl, ⟨⟨_, _, by rw [HZ.out], HW.out.kept KS (fun _ _ h => h), HC.out, HNIL.out⟩⟩, ?_, KS⟩
  rintro k ⟨lo, hv, he, hb⟩
  cases he
  exact hb

/-- Or, of any two sets. -/
theorem or_any (w : World) (v u : Value) (M K : Nat) (hv : SetV w v M) (hu : SetV w u K) (hS : Small M) (hS2 : Small K) :
    Calls Tryz.prog 10 #[v, u] w fun e w' => ∃ v', e = .returned v' ∧ SetV w' v' (M ||| K) ∧ (∀ k, setBlk v' k → setBlk v k ∨ setBlk u k ∨ w.heap.size ≤ k) ∧ Kept (fun _ => False) w w' := by
  obtain ⟨x, hs, rfl, hw, hc, hn1⟩ := hv.ex
  obtain ⟨y, ks, rfl, hw2, hc2, hn2⟩ := hu.ex
  obtain ⟨a1, c1, rfl⟩ := hw.form
  obtain ⟨a2, c2, rfl⟩ := hw2.form
  by_cases hlt : hs.length < ks.length
  · by_cases h0 : hs.length = 0
    · have hM : M / 2 ^ 64 = 0 := hc.nil.1 h0
      rw [h0]
      refine (or_c w K M a2 c2 ks a1 c1 hw2 hc2 hM hn2 (by omega)).mono ?_
      rintro e w' ⟨v', rfl, h1, h2, h3⟩
      exact ⟨v', rfl, by rw [Nat.or_comm]; exact h1, fun k hk => Or.inr (Or.inl ⟨_, _, rfl, h2 k hk⟩), h3⟩
    · refine (or_d w K M a2 c2 ks hs a1 c1 hw2 hc2 (hc2.small hS2) hw hc (hc.small hS) (by omega) hlt).mono ?_
      rintro e w' ⟨v', rfl, h1, h2, h3⟩
      exact ⟨v', rfl, by rw [Nat.or_comm]; exact h1, fun k hk => Or.inr (Or.inr (h2 k hk)), h3⟩
  · by_cases h0 : ks.length = 0
    · have hK : K / 2 ^ 64 = 0 := hc2.nil.1 h0
      rw [h0]
      refine (or_a w M K a1 c1 hs a2 c2 hw hc hK hn1).mono ?_
      rintro e w' ⟨v', rfl, h1, h2, h3⟩
      exact ⟨v', rfl, h1, fun k hk => Or.inl ⟨_, _, rfl, h2 k hk⟩, h3⟩
    · refine (or_b w M K a1 c1 hs ks a2 c2 hw hc (hc.small hS) hw2 hc2 (hc2.small hS2) (by omega) (by omega)).mono ?_
      rintro e w' ⟨v', rfl, h1, h2, h3⟩
      exact ⟨v', rfl, h1, fun k hk => Or.inr (Or.inr (h2 k hk)), h3⟩
end Go.Proofs.YteaagllpkcpedaaGreatDoor
