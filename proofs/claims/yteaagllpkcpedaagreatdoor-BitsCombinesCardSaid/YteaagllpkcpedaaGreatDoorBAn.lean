/-
  bits.Set.And.
-/
import Derived.Test.YteaagllpkcpedaaGreatDoorBMi
namespace Go.Proofs.YteaagllpkcpedaaGreatDoor
open Go.RowKit

set_option maxRecDepth 100000 in
set_option maxHeartbeats 3200000 in
theorem and_at (w : World) (M K : Nat) (a1 : Option Addr) (c1 : Nat) (hs ks : List Nat) (a2 : Option Addr) (c2 : Nat) (hw : Words w (.slice a1 hs.length c1) hs) (hc : Canon hs (M / 2 ^ 64)) (hl : hs.length ≤ 63)
    (hw2 : Words w (.slice a2 ks.length c2) ks) (hc2 : Canon ks (K / 2 ^ 64)) (hl2 : ks.length ≤ 63) :
    Calls Tryz.prog 11 #[.agg #[.int .u64 (M % 2 ^ 64 : Nat), .slice a1 hs.length c1], .agg #[.int .u64 (K % 2 ^ 64 : Nat), .slice a2 ks.length c2]] w fun e w' => ∃ v', e = .returned v' ∧ SetV w' v' ((M &&& K)) ∧ (∀ k, setBlk v' k → w.heap.size ≤ k) ∧ Kept (fun _ => False) w w' := by
  obtain ⟨i0, hin, hz0, hz1, hz2⟩ := info_parts info_u64
  obtain ⟨n, hn⟩ : ∃ n, n = hs.length := ⟨_, rfl⟩
  obtain ⟨m, hm⟩ : ∃ n, n = ks.length := ⟨_, rfl⟩
  obtain ⟨lo1, hl1⟩ : ∃ l, l = M % 2 ^ 64 := ⟨_, rfl⟩
  obtain ⟨lo2, hl2'⟩ : ∃ l, l = K % 2 ^ 64 := ⟨_, rfl⟩
  obtain ⟨z, hz⟩ : ∃ z, z = lo1 &&& lo2 := ⟨_, rfl⟩
  have hl1b : lo1 < 18446744073709551616 := by rw [hl1]; exact Nat.mod_lt _ (by decide)
  have hl2b : lo2 < 18446744073709551616 := by rw [hl2']; exact Nat.mod_lt _ (by decide)
  have hx : bits .and .u64 (lo1 : Int) (lo2 : Int) = (z : Int) := by rw [hz]; exact u64_and_nat _ _ hl1b hl2b
  have hzm : z = (M &&& K) % 2 ^ 64 := by rw [mod_and, hz, hl1, hl2']
  obtain ⟨g, hg⟩ : ∃ g : Nat → Nat, g = fun j => wordN (M / 2 ^ 64) j &&& wordN (K / 2 ^ 64) j := ⟨_, rfl⟩
  have hgw : ∀ j, g j = wordN ((M &&& K) / 2 ^ 64) j := fun j => by rw [hg, div_and, wordN_and]
  obtain ⟨mn, hmn, hmn1, hmn2⟩ : ∃ mn : Nat, ((n ≤ m ∧ mn = n) ∨ (m < n ∧ mn = m)) ∧ mn ≤ n ∧ mn ≤ m := by
    rcases Nat.lt_or_ge m n with h | h
    · exact ⟨m, Or.inr ⟨h, rfl⟩, by omega, by omega⟩
    · exact ⟨n, Or.inl ⟨h, rfl⟩, by omega, by omega⟩
  have hst : wv (List.replicate mn 0) = wv (mixG g (fun _ => 0) mn 0) := by
    rw [mixG_zero]
    congr 1
    exact List.ext_getElem (by simp) (by intros; simp)
  have hend : ∀ k, k = mn → mixG g (fun _ => 0) mn k = wl ((M &&& K) / 2 ^ 64) mn := fun k hk => by
    rw [mixG_end g _ mn k (fun j h1 h2 => by omega), wl_word]
    exact List.map_congr_left fun j _ => hgw j
  have hlt : (M &&& K) / 2 ^ 64 < 2 ^ (64 * mn) := by
    rw [div_and]
    rcases hmn with ⟨_, e⟩ | ⟨_, e⟩
    · rw [e, hn]; exact Nat.lt_of_le_of_lt Nat.and_le_left hc.lt
    · rw [e, hm]; exact Nat.lt_of_le_of_lt Nat.and_le_right hc2.lt
  have hk1 : ∀ i, i < n → ∃ gg off, a1 = some ⟨gg, off, none⟩ ∧ gg < w.heap.size ∧ w.cell? ⟨gg, off + i, none⟩ = some (.int .u64 (wordN (M / 2 ^ 64) i : Nat)) := fun i hi => by
    obtain ⟨a, c, e, _, hcell⟩ := words_form hw
    cases e
    obtain ⟨gg, off, e1, e2, e3⟩ := hcell i (by omega)
    exact ⟨gg, off, e1, e2, by rw [e3, canon_getD hc i (by omega)]⟩
  have hk2 : ∀ i, i < m → ∃ gg off, a2 = some ⟨gg, off, none⟩ ∧ gg < w.heap.size ∧ w.cell? ⟨gg, off + i, none⟩ = some (.int .u64 (wordN (K / 2 ^ 64) i : Nat)) := fun i hi => by
    obtain ⟨a, c, e, _, hcell⟩ := words_form hw2
    cases e
    obtain ⟨gg, off, e1, e2, e3⟩ := hcell i (by omega)
    exact ⟨gg, off, e1, e2, by rw [e3, canon_getD hc2 i (by omega)]⟩
  rw [← hl1, ← hl2']
  rw [← hn] at hw hl ⊢
  rw [← hm] at hw2 hl2 ⊢
  have hwlt := hw.lt
  have HLT := Lib.hid hlt; have HZ := Lib.hid hzm; have HST := Lib.hid hst; have HEND := Lib.hid hend; have HK1 := Lib.hid hk1; have HK2 := Lib.hid hk2
  have HG := Lib.hid hg
  have BX := Lib.hid (Bx.new w lo1 lo2 a1 n c1 a2 m c2)
  unfold bxW at BX
  clear hw hw2 hlt hzm hz hl1 hl2' hl1b hl2b hc hc2 hm hgw hst hend hk1 hk2 hg hn
  rcases hmn with ⟨h1, hme⟩ | ⟨h1, hme⟩
  all_goals
    have HME := Lib.hid hme; clear hme
    go_enter Tryz.func11, Tryz.ntmps11
    go_wp2_with (refine wpList_make_full _ rfl _ _ _ rfl (w.heap.size + 3) 25 i0 _ 1 Tryz.underlying26 hin hz0 hz1 _ _ _ _ mn rfl rfl (by have := HME.out; omega) (by have := HME.out; omega) (by rw [hz2]; omega) (by unfold maxLen; omega) (by simp) ?_)
    intro w1 hown hgrow
    have hb := BX.out.on (Kept.ofGrown (S := fun _ => False) hgrow (fun k e => by cases e)) (fun _ _ h => h)
    rw [wv_zero, HST.out] at hown
    obtain ⟨⟨a', c', hfm⟩, hbase⟩ := row_form2 hown
    rw [hfm] at hown hbase ⊢
    clear hfm
    obtain ⟨base, hbs⟩ : ∃ b, b = w.heap.size + 3 := ⟨_, rfl⟩
    rw [← hbs] at hown hbase
    have hA2 : w.heap.size + 2 < base := by omega
    clear hbs
    have HB1 := Lib.hid hb; have HO1 := Lib.hid hown; have HBASE := Lib.hid hbase
    obtain ⟨b0, b1, b2, b3, b4, b5, b6, b7, b8, b9⟩ := hb
    clear hgrow hown hbase BX b4 b5 b6 b7 b9
    go_wp2_with fail
    go_loopw [17] (fun iv wr => ∃ k : Nat, k ≤ mn ∧ iv = .int .i64 k ∧ Hid (wr.ownsRow base 25 1 (.slice a' mn c') mn (wv (mixG g (fun _ => 0) mn k))) ∧ Hid (Kept (fun k => (Value.slice a' mn c').ownBlock = some k) w1 wr)) (fun iv _ => mn - (intOf iv).toNat)
    case atStart => exact ⟨0, Nat.zero_le _, rfl, HO1.out, Kept.refl _ _⟩
    case round =>
      obtain ⟨k, hk, rfl, ho, hkr⟩ := hrel
      have hb := HB1.out.on hkr.out (fun k hk e => by have := HBASE.out k e; omega)
      clear b0 b1 b2 b3 b8
      obtain ⟨b0, b1, b2, b3, b4, b5, b6, b7, b8, b9⟩ := hb
      have HBR := Lib.hid (⟨b0, b1, b2, b3, b4, b5, b6, b7, b8, b9⟩ : Bx w wr lo1 lo2 (.slice a1 n c1) (.slice a2 m c2))
      by_cases hlt : k < mn
      · have hkn : k < n := by omega
        have hkm : k < m := by omega
        obtain ⟨gb, hgb⟩ := row_slice2 ho.out (by omega)
        subst hgb
        obtain ⟨g1, off1, ha1, hg1, hc1⟩ := HK1.out k hkn
        subst ha1
        obtain ⟨g2, off2, ha2, hg2, hc2⟩ := HK2.out k hkm
        subst ha2
        have ck1 := (b9.cell (p := ⟨g1, off1 + k, none⟩) hg1 (fun h => h)).trans hc1
        have hlt1 : (k : Int) < (mn : Int) := by omega
        have hlt2 : (k : Int) < (n : Int) := by omega
        have hlt3 : (k : Int) < (m : Int) := by omega
        have hk0 : (0 : Int) ≤ (k : Int) := by omega
        have ck := (b9.cell (p := ⟨g2, off2 + k, none⟩) hg2 (fun h => h)).trans hc2
        have hgk : g k = wordN (M / 2 ^ 64) k &&& wordN (K / 2 ^ 64) k := by rw [HG.out]
        have hand : bits .and .u64 (wordN (M / 2 ^ 64) k : Int) (wordN (K / 2 ^ 64) k : Int) = (g k : Int) := by rw [hgk]; exact u64_and_nat _ _ (wordN_lt _ _) (wordN_lt _ _)
        have cq : wr.cell? ⟨gb, k, none⟩ = some (.int .u64 (0 : Nat)) := by
          rw [ho.out.cellAt k (by omega), wv_getD _ _ (by rw [mixG_length]; exact hlt), mixG_getD _ _ _ _ hlt]
        have fq : wr.frozen? ⟨gb, k, none⟩ = false := ho.out.frozenAt k
        have hst := ho.out.stored k (.int .u64 (g k : Nat))
        rw [wv_set, mixG_set _ _ mn k hlt] at hst
        have HSTK := Lib.hid hst.1
        generalize wordN (M / 2 ^ 64) k = y at ck1 hand
        generalize wordN (K / 2 ^ 64) k = zz at ck hand
        generalize g k = r at hand HSTK
        clear hgk hst hc1 hc2 b4 b5 b6 b7 b9
        go_wp2_with fail
        go_region
        all_goals
          go_wp2
          go_roundw
          case rel => exact ⟨k + 1, by omega, by go_num, HSTK.out, Lib.hid (hkr.out.trans (Kept.setCell (fun k => (Value.slice (some ⟨gb, 0, none⟩) mn c').ownBlock = some k) wr ⟨gb, k, none⟩ (.int .u64 (r : Int)) rfl).drew (fun _ _ h => h) (fun _ _ h => h))⟩
          case measure => simp [intOf]; omega
      · have hkn : k = mn := by omega
        have hen := HEND.out k hkn
        have hme := HME.out
        have hx1 : (¬ (k : Int) < (n : Int) ∧ n ≤ m) ∨ (¬ (k : Int) < (m : Int) ∧ m < n) := by omega
        have ho2 := ho.out
        rw [hen] at ho2
        have hx0 : ¬ (k : Int) < (mn : Int) := by omega
        have hwd := words_row ho2
        have HWD := Lib.hid hwd; have HKR := Lib.hid hkr.out; have HO2 := Lib.hid ho2
        have ne1 : ¬ w.heap.size = w.heap.size + 1 + 1 := by omega
        have ne2 : ¬ w.heap.size + 1 = w.heap.size + 1 + 1 := by omega
        have ne3 : ¬ w.heap.size + 1 + 1 = w.heap.size := by omega
        clear ho hkr hen hme ho2 hwd HO1 b9
        rcases hx1 with ⟨hx1, hx2⟩ | ⟨hx1, hx2⟩
        all_goals
          first
            | (exfalso; omega)
            | (clear hkn
               go_wp2_with fail
               go_region_held3 (fun w' => w'.cell? ⟨w.heap.size, 0, none⟩ = some (.int .u64 (lo1 : Int)) ∧ w'.cell? ⟨w.heap.size + 1, 0, none⟩ = some (.int .u64 (lo2 : Int)))
                 (first | go_keep)
                 ((go_at_call 39; refine (trim_any _ _ _ (show Words wr.drew _ _ from HWD.out)).mono ?_; rintro e w1 ⟨hv, rfl, ht, rfl⟩; obtain ⟨a, mt, c, rfl⟩ := ht.form; have HT := Lib.hid ht; clear ht))
               go_wp2
               have KS : Kept (fun k => k = w.heap.size + 1 + 1) wr.drew ((wr.setCell ⟨w.heap.size + 1 + 1, 0, none⟩ (.int .u64 (z : Int))).setCell ⟨w.heap.size + 1 + 1, 1, none⟩ (.slice a mt c)).drew :=
                 ((Kept.setCell (fun k => k = w.heap.size + 1 + 1) _ ⟨w.heap.size + 1 + 1, 0, none⟩ _ rfl).trans (Kept.setCell (fun k => k = w.heap.size + 1 + 1) _ ⟨w.heap.size + 1 + 1, 1, none⟩ _ rfl) (fun _ _ h => h) (fun _ _ h => h)).drews
               obtain ⟨t1, t2⟩ := trim_set (w := w) HT.out rfl HLT.out HZ.out KS (fun k hk e => by have := HBASE.out k hk; omega)
               refine bodyPost_ret (v := .agg #[.int .u64 z, .slice a mt c]) (by simp [results, Tryz.results11, go_sem, b4, b5]) rfl ⟨_, rfl, t1, ?_, (HBR.out.fin _ _).drew⟩
               rintro k ⟨lo, hv, he, hb⟩
               cases he
               have := HBASE.out k (t2 k hb)
               omega)

theorem and_any (w : World) (v u : Value) (M K : Nat) (hv : SetV w v M) (hu : SetV w u K) (hS : Small M) (hS2 : Small K) :
    Calls Tryz.prog 11 #[v, u] w fun e w' => ∃ v', e = .returned v' ∧ SetV w' v' (M &&& K) ∧ (∀ k, setBlk v' k → w.heap.size ≤ k) ∧ Kept (fun _ => False) w w' := by
  obtain ⟨x, hs, rfl, hw, hc, _⟩ := hv.ex
  obtain ⟨y, ks, rfl, hw2, hc2, _⟩ := hu.ex
  obtain ⟨a1, c1, rfl⟩ := hw.form
  obtain ⟨a2, c2, rfl⟩ := hw2.form
  exact and_at w M K a1 c1 hs ks a2 c2 hw hc (hc.small hS) hw2 hc2 (hc2.small hS2)
end Go.Proofs.YteaagllpkcpedaaGreatDoor
