import Derived.Test.YtjglnpijngdpkaaDoorGA
import Derived.Deep.RegionHeld3
import Derived.BigRegion
/-
  bits.Set.Minus.
-/
namespace Go.Proofs.YtjglnpijngdpkaaDoor
open Go.RowKit

/-- The boxes of two sets and of the result, in the worlds that follow. -/
structure Bx (w W : World) (lo1 lo2 : Nat) (v1 v2 : Value) : Prop where
  c0 : W.cell? ⟨w.heap.size, 0, none⟩ = some (.int .u64 (lo1 : Int))
  c1 : W.cell? ⟨w.heap.size, 1, none⟩ = some v1
  d0 : W.cell? ⟨w.heap.size + 1, 0, none⟩ = some (.int .u64 (lo2 : Int))
  d1 : W.cell? ⟨w.heap.size + 1, 1, none⟩ = some v2
  r0 : W.cell? ⟨w.heap.size + 1 + 1, 0, none⟩ = some (.int .u64 0)
  r1 : W.cell? ⟨w.heap.size + 1 + 1, 1, none⟩ = some (.slice none 0 0)
  f0 : W.frozen? ⟨w.heap.size + 1 + 1, 0, none⟩ = false
  f1 : W.frozen? ⟨w.heap.size + 1 + 1, 1, none⟩ = false
  lt : w.heap.size + 1 + 1 < W.heap.size
  kept : Kept (fun _ => False) w W

def bxW (w : World) (lo1 lo2 : Nat) (a1 : Option Addr) (n1 c1 : Nat) (a2 : Option Addr) (n2 c2 : Nat) : World :=
  ((w.alloc (.cells #[.int .u64 lo1, .slice a1 n1 c1] 57)).alloc (.cells #[.int .u64 lo2, .slice a2 n2 c2] 57)).alloc (.cells #[.int .u64 0, .slice none 0 0] 57)
theorem Bx.new (w : World) (lo1 lo2 : Nat) (a1 : Option Addr) (n1 c1 : Nat) (a2 : Option Addr) (n2 c2 : Nat) : Bx w (bxW w lo1 lo2 a1 n1 c1 a2 n2 c2) lo1 lo2 (.slice a1 n1 c1) (.slice a2 n2 c2) := by
  unfold bxW
  exact ⟨by go_simp, by go_simp, by go_simp, by go_simp, by go_simp, by go_simp, by go_simp, by go_simp, by simp, ((Kept.alloc _ _ _).then (Kept.alloc _ _ _)).then (Kept.alloc _ _ _)⟩
theorem Bx.on {w a b : World} {lo1 lo2 : Nat} {v1 v2 : Value} {S : Nat → Prop} (h : Bx w a lo1 lo2 v1 v2) (hk : Kept S a b) (hn : ∀ k, k ≤ w.heap.size + 2 → ¬ S k) : Bx w b lo1 lo2 v1 v2 := by
  have lt := h.lt
  exact ⟨(hk.cell (p := ⟨w.heap.size, 0, none⟩) (by simp; omega) (hn _ (by simp))).trans h.c0, (hk.cell (p := ⟨w.heap.size, 1, none⟩) (by simp; omega) (hn _ (by simp))).trans h.c1,
    (hk.cell (p := ⟨w.heap.size + 1, 0, none⟩) (by simp; omega) (hn _ (by simp))).trans h.d0, (hk.cell (p := ⟨w.heap.size + 1, 1, none⟩) (by simp; omega) (hn _ (by simp))).trans h.d1,
    (hk.cell (p := ⟨w.heap.size + 1 + 1, 0, none⟩) (by simp; omega) (hn _ (by simp))).trans h.r0, (hk.cell (p := ⟨w.heap.size + 1 + 1, 1, none⟩) (by simp; omega) (hn _ (by simp))).trans h.r1,
    (hk.frozen (p := ⟨w.heap.size + 1 + 1, 0, none⟩) (by simp; omega) (hn _ (by simp))).trans h.f0, (hk.frozen (p := ⟨w.heap.size + 1 + 1, 1, none⟩) (by simp; omega) (hn _ (by simp))).trans h.f1,
    Nat.lt_of_lt_of_le lt hk.size, h.kept.trans hk (fun _ _ h => h) (fun i hi hs => hn i (by omega) hs)⟩
theorem Bx.fin {w W : World} {lo1 lo2 : Nat} {v1 v2 : Value} (h : Bx w W lo1 lo2 v1 v2) (x y : Value) : Kept (fun _ => False) w ((W.setCell ⟨w.heap.size + 1 + 1, 0, none⟩ x).setCell ⟨w.heap.size + 1 + 1, 1, none⟩ y) :=
  h.kept.trans ((Kept.setCell (fun k => k = w.heap.size + 1 + 1) _ ⟨w.heap.size + 1 + 1, 0, none⟩ x rfl).trans (Kept.setCell (fun k => k = w.heap.size + 1 + 1) _ ⟨w.heap.size + 1 + 1, 1, none⟩ y rfl) (fun _ _ h => h) (fun _ _ h => h)) (fun _ _ h => h) (fun i hi e => by omega)

/-- A result whose words were trimmed. -/
theorem trim_set {w W W' : World} {v hv : Value} {N n lo : Nat} {hs : List Nat} (ht : TrimRes W v hs hv) (hh : hs = wl (N / 2 ^ 64) n) (hN : N / 2 ^ 64 < 2 ^ (64 * n)) (hlo : lo = N % 2 ^ 64) (hk : Kept (fun k => k = w.heap.size + 1 + 1) W W') (hb : ∀ k, v.ownBlock = some k → k ≠ w.heap.size + 1 + 1) :
    SetV W' (.agg #[.int .u64 lo, hv]) N ∧ (∀ k, hv.ownBlock = some k → v.ownBlock = some k) := by
  obtain ⟨t, h1, h2, h3, h4⟩ := ht.ex
  subst hh
  have hcan := h1.canon hN
  have hbl : ∀ k, hv.ownBlock = some k → v.ownBlock = some k := fun k hk2 => by
    rcases h4 with h4 | h4
    · rw [h4] at hk2; cases hk2
    · rw [← h4]; exact hk2
  refine ⟨⟨⟨hv, _, by rw [hlo], h2.kept hk (fun k hk2 e => hb k (hbl k hk2) e), hcan, fun hnil => ?_⟩⟩, hbl⟩
  refine h3 ?_
  have := congrArg List.length hnil
  have hle := h1.le
  rw [List.length_take, wl_length, List.length_nil] at this
  rw [wl_length] at hle
  omega

set_option maxRecDepth 100000 in
set_option maxHeartbeats 3200000 in
theorem minus_nil (w : World) (M K : Nat) (a1 : Option Addr) (c1 : Nat) (hs : List Nat) (a2 : Option Addr) (c2 : Nat) (hw : Words w (.slice a1 hs.length c1) hs) (hc : Canon hs (M / 2 ^ 64)) (hK : K / 2 ^ 64 = 0) :
    Calls Tryd.prog 34 #[.agg #[.int .u64 (M % 2 ^ 64 : Nat), .slice a1 hs.length c1], .agg #[.int .u64 (K % 2 ^ 64 : Nat), .slice a2 0 c2]] w fun e w' => ∃ v', e = .returned v' ∧ SetV w' v' (anN M K) ∧ (∀ k, setBlk v' k → (Value.slice a1 hs.length c1).ownBlock = some k ∨ w.heap.size ≤ k) ∧ Kept (fun _ => False) w w' := by
  obtain ⟨n, hn⟩ : ∃ n, n = hs.length := ⟨_, rfl⟩
  obtain ⟨lo1, hl1⟩ : ∃ l, l = M % 2 ^ 64 := ⟨_, rfl⟩
  obtain ⟨lo2, hl2⟩ : ∃ l, l = K % 2 ^ 64 := ⟨_, rfl⟩
  obtain ⟨z, hz⟩ : ∃ z, z = anN lo1 lo2 := ⟨_, rfl⟩
  have hl1b : lo1 < 18446744073709551616 := by rw [hl1]; exact Nat.mod_lt _ (by decide)
  have hl2b : lo2 < 18446744073709551616 := by rw [hl2]; exact Nat.mod_lt _ (by decide)
  have hx : bits .andNot .u64 (lo1 : Int) (lo2 : Int) = (z : Int) := by rw [hz]; exact u64_anN _ _ hl1b hl2b
  have hzm : z = anN M K % 2 ^ 64 := by rw [mod_an, hz, hl1, hl2]
  have hdv : anN M K / 2 ^ 64 = M / 2 ^ 64 := by rw [div_an, hK, anN_zero]
  have hhs : hs = wl (anN M K / 2 ^ 64) hs.length := by rw [hdv]; exact hc.eq
  have hlt : anN M K / 2 ^ 64 < 2 ^ (64 * hs.length) := by rw [hdv]; exact hc.lt
  rw [← hl1, ← hl2]
  rw [← hn] at hw hlt hhs ⊢
  have hwlt := hw.lt
  have HW := Lib.hid hw; have HH := Lib.hid hhs; have HLT := Lib.hid hlt; have HZ := Lib.hid hzm
  have BX := Lib.hid (Bx.new w lo1 lo2 a1 n c1 a2 0 c2)
  unfold bxW at BX
  clear hw hhs hlt hzm hz hl1 hl2 hl1b hl2b hdv hc hn hK
  go_enter Tryd.func34, Tryd.ntmps34
  go_wp2_with fail
  have hb := BX.out
  generalize ((w.alloc (.cells #[.int .u64 lo1, .slice a1 n c1] 57)).alloc (.cells #[.int .u64 lo2, .slice a2 0 c2] 57)).alloc (.cells #[.int .u64 0, .slice none 0 0] 57) = wA at BX hb ⊢
  obtain ⟨b0, b1, b2, b3, b4, b5, b6, b7, b8, b9⟩ := hb
  have ne1 : ¬ w.heap.size = w.heap.size + 1 + 1 := by omega
  have ne2 : ¬ w.heap.size + 1 = w.heap.size + 1 + 1 := by omega
  have ne3 : ¬ w.heap.size + 1 + 1 = w.heap.size := by omega
  go_region_held3 (fun w' => w'.cell? ⟨w.heap.size, 0, none⟩ = some (.int .u64 (lo1 : Int)) ∧ w'.cell? ⟨w.heap.size + 1, 0, none⟩ = some (.int .u64 (lo2 : Int)))
    (first | go_keep)
    ((go_at_call 65; refine (trim_any _ _ _ (HW.out.kept (BX.out.kept.drew) (fun _ _ h => h))).mono ?_; rintro e w1 ⟨hv, rfl, ht, rfl⟩; obtain ⟨a, m, c, rfl⟩ := ht.form; have HT := Lib.hid ht; clear ht))
  go_wp2
  have KS : Kept (fun k => k = w.heap.size + 1 + 1) wA.drew ((wA.setCell ⟨w.heap.size + 1 + 1, 0, none⟩ (.int .u64 (z : Int))).setCell ⟨w.heap.size + 1 + 1, 1, none⟩ (.slice a m c)).drew :=
    ((Kept.setCell (fun k => k = w.heap.size + 1 + 1) _ ⟨w.heap.size + 1 + 1, 0, none⟩ _ rfl).trans (Kept.setCell (fun k => k = w.heap.size + 1 + 1) _ ⟨w.heap.size + 1 + 1, 1, none⟩ _ rfl) (fun _ _ h => h) (fun _ _ h => h)).drews
  obtain ⟨t1, t2⟩ := trim_set (w := w) HT.out HH.out HLT.out HZ.out KS (fun k hk e => by have := hwlt k hk; omega)
  refine bodyPost_ret (v := .agg #[.int .u64 z, .slice a m c]) (by simp [results, Tryd.results34, go_sem, b4, b5]) rfl ⟨_, rfl, t1, ?_, (BX.out.fin _ _).drew⟩
  rintro k ⟨lo, hv, he, hb⟩
  cases he
  exact Or.inl (t2 k hb)

theorem row_form2 {W : World} {base : Nat} {e : TypeId} {size : Nat} {v : Value} {k : Nat} {xs : List Value} (h : W.ownsRow base e size v k xs) : (∃ a c, v = .slice a k c) ∧ ∀ r, v.ownBlock = some r → base ≤ r := by
  obtain ⟨_, hh⟩ := h
  rcases hh with ⟨rfl, rfl⟩ | ⟨g, cap, cur, rfl, hb, _⟩
  · exact ⟨⟨_, _, rfl⟩, fun r hr => by cases hr⟩
  · exact ⟨⟨_, _, rfl⟩, fun r hr => by have : g = r := by simpa [Value.ownBlock] using hr
                                       omega⟩
theorem row_slice2 {W : World} {base : Nat} {e : TypeId} {size : Nat} {a : Option Addr} {c k : Nat} {xs : List Value} (h : W.ownsRow base e size (.slice a k c) k xs) (hk : 0 < k) : ∃ g, a = some ⟨g, 0, none⟩ := by
  obtain ⟨_, hh⟩ := h
  rcases hh with ⟨_, h0⟩ | ⟨g, cap, cur, he, _⟩
  · omega
  · cases he; exact ⟨g, rfl⟩
/-- A row of words reads as words. -/
theorem words_row {W : World} {base : Nat} {v : Value} {n : Nat} {xs : List Nat} (h : W.ownsRow base 54 1 v n (wv xs)) : Words W v xs := by
  have hl := h.1
  have h0 := h
  rw [wv_length, Nat.mul_one] at hl
  obtain ⟨_, hh⟩ := h
  rcases hh with ⟨rfl, rfl⟩ | ⟨g, cap, cur, rfl, hb, hg, h1, h2, h3, h4⟩
  · exact Or.inl ⟨rfl, List.length_eq_zero_iff.1 hl⟩
  · refine Or.inr ⟨g, 0, cap, by rw [hl], by omega, h2, (Array.getElem?_eq_some_iff.1 hg).1, fun i hi => ?_⟩
    rw [Nat.zero_add, h0.cellAt i (by omega), wv_getD xs i hi]

set_option maxRecDepth 100000 in
set_option maxHeartbeats 3200000 in
theorem minus_some (w : World) (M K : Nat) (a1 : Option Addr) (c1 : Nat) (hs ks : List Nat) (a2 : Option Addr) (c2 : Nat) (hw : Words w (.slice a1 hs.length c1) hs) (hc : Canon hs (M / 2 ^ 64)) (hl : hs.length ≤ 63)
    (hw2 : Words w (.slice a2 ks.length c2) ks) (hc2 : Canon ks (K / 2 ^ 64)) (hl2 : ks.length ≤ 63) (hpos : 0 < ks.length) :
    Calls Tryd.prog 34 #[.agg #[.int .u64 (M % 2 ^ 64 : Nat), .slice a1 hs.length c1], .agg #[.int .u64 (K % 2 ^ 64 : Nat), .slice a2 ks.length c2]] w fun e w' => ∃ v', e = .returned v' ∧ SetV w' v' (anN M K) ∧ (∀ k, setBlk v' k → w.heap.size ≤ k) ∧ Kept (fun _ => False) w w' := by
  obtain ⟨n, hn⟩ : ∃ n, n = hs.length := ⟨_, rfl⟩
  obtain ⟨m, hm⟩ : ∃ n, n = ks.length := ⟨_, rfl⟩
  obtain ⟨lo1, hl1⟩ : ∃ l, l = M % 2 ^ 64 := ⟨_, rfl⟩
  obtain ⟨lo2, hl2'⟩ : ∃ l, l = K % 2 ^ 64 := ⟨_, rfl⟩
  obtain ⟨z, hz⟩ : ∃ z, z = anN lo1 lo2 := ⟨_, rfl⟩
  have hl1b : lo1 < 18446744073709551616 := by rw [hl1]; exact Nat.mod_lt _ (by decide)
  have hl2b : lo2 < 18446744073709551616 := by rw [hl2']; exact Nat.mod_lt _ (by decide)
  have hx : bits .andNot .u64 (lo1 : Int) (lo2 : Int) = (z : Int) := by rw [hz]; exact u64_anN _ _ hl1b hl2b
  have hzm : z = anN M K % 2 ^ 64 := by rw [mod_an, hz, hl1, hl2']
  obtain ⟨g, hg⟩ : ∃ g : Nat → Nat, g = fun j => anN (wordN (M / 2 ^ 64) j) (wordN (K / 2 ^ 64) j) := ⟨_, rfl⟩
  obtain ⟨h, hh⟩ : ∃ h : Nat → Nat, h = wordN (M / 2 ^ 64) := ⟨_, rfl⟩
  have hgw : ∀ j, g j = wordN (anN M K / 2 ^ 64) j := fun j => by rw [hg, div_an, wordN_an]
  have hgh : ∀ j, m ≤ j → g j = h j := fun j hj => by
    rw [hg, hh]
    show anN _ (wordN (K / 2 ^ 64) j) = _
    rw [canon_word hc2 j (by omega), anN_zero]
  have hst : wv hs = wv (mixG g h n 0) := by
    rw [mixG_zero, hh, ← wl_word, hn]
    congr 1
    exact hc.eq
  have hend : ∀ k, (m ≤ k ∨ n ≤ k) → mixG g h n k = wl (anN M K / 2 ^ 64) n := fun k hk => by
    rw [mixG_end g h n k (fun j h1 h2 => hgh j (by omega)), wl_word]
    exact List.map_congr_left fun j _ => hgw j
  have hlt : anN M K / 2 ^ 64 < 2 ^ (64 * n) := by
    rw [div_an, hn]
    exact Nat.lt_of_le_of_lt (anN_le _ _) hc.lt
  have hk2 : ∀ i, i < m → ∃ gg off, a2 = some ⟨gg, off, none⟩ ∧ gg < w.heap.size ∧ w.cell? ⟨gg, off + i, none⟩ = some (.int .u64 (wordN (K / 2 ^ 64) i : Nat)) := fun i hi => by
    obtain ⟨a, c, e, _, hcell⟩ := words_form hw2
    cases e
    obtain ⟨gg, off, e1, e2, e3⟩ := hcell i (by omega)
    exact ⟨gg, off, e1, e2, by rw [e3, canon_getD hc2 i (by omega)]⟩
  rw [← hl1, ← hl2']
  rw [← hn] at hw hl ⊢
  rw [← hm] at hw2 hl2 hpos ⊢
  have hwlt := hw.lt
  have HW := Lib.hid hw; have HLT := Lib.hid hlt; have HZ := Lib.hid hzm; have HST := Lib.hid hst; have HEND := Lib.hid hend; have HK2 := Lib.hid hk2; have HNN := Lib.hid hn
  have HG := Lib.hid hg; have HHH := Lib.hid hh
  have BX := Lib.hid (Bx.new w lo1 lo2 a1 n c1 a2 m c2)
  unfold bxW at BX
  clear hw hw2 hlt hzm hz hl1 hl2' hl1b hl2b hc hc2 hm hgw hgh hst hend hk2 hg hh hn
  obtain ⟨mn, hmn, hmn1, hmn2⟩ : ∃ mn : Nat, ((n ≤ m ∧ mn = n) ∨ (m < n ∧ mn = m)) ∧ mn ≤ n ∧ mn ≤ m := by
    rcases Nat.lt_or_ge m n with h | h
    · exact ⟨m, Or.inr ⟨h, rfl⟩, by omega, by omega⟩
    · exact ⟨n, Or.inl ⟨h, rfl⟩, by omega, by omega⟩
  have hEN : m ≤ mn ∨ n ≤ mn := by omega
  rcases hmn with ⟨h1, hme⟩ | ⟨h1, hme⟩
  all_goals
    have HME := Lib.hid hme; clear hme
    have hp : (0 : Int) < (m : Int) := by omega
    go_enter Tryd.func34, Tryd.ntmps34
    go_wp2_with fail
    refine (uclone_any _ hs _ (HW.out.kept BX.out.kept (fun _ _ h => h)) (by have := HNN.out; omega)).mono ?_
    rintro e w1 ⟨v', rfl, hown, hk1⟩
    have hb := BX.out.on hk1 (fun _ _ h => h)
    have hA2 : w.heap.size + 2 < (((w.alloc (.cells #[.int .u64 lo1, .slice a1 n c1] 57)).alloc (.cells #[.int .u64 lo2, .slice a2 m c2] 57)).alloc (.cells #[.int .u64 0, .slice none 0 0] 57)).heap.size := by simp
    rw [← HNN.out, HST.out] at hown
    obtain ⟨⟨a', c', rfl⟩, hbase⟩ := row_form2 hown
    generalize (((w.alloc (.cells #[.int .u64 lo1, .slice a1 n c1] 57)).alloc (.cells #[.int .u64 lo2, .slice a2 m c2] 57)).alloc (.cells #[.int .u64 0, .slice none 0 0] 57)).heap.size = base at hown hbase hA2
    have HB1 := Lib.hid hb; have HO1 := Lib.hid hown; have HBASE := Lib.hid hbase
    obtain ⟨b0, b1, b2, b3, b4, b5, b6, b7, b8, b9⟩ := hb
    clear hk1 hown hbase BX b4 b5 b6 b7 b9
    go_wp2_with fail
    go_loopw [23] (fun iv wr => ∃ k : Nat, k ≤ mn ∧ iv = .int .i64 k ∧ Hid (wr.ownsRow base 54 1 (.slice a' n c') n (wv (mixG g h n k))) ∧ Hid (Kept (fun k => (Value.slice a' n c').ownBlock = some k) w1 wr)) (fun iv _ => mn - (intOf iv).toNat)
    case atStart => exact ⟨0, Nat.zero_le _, rfl, HO1.out, Kept.refl _ _⟩
    case round =>
      obtain ⟨k, hk, rfl, ho, hkr⟩ := hrel
      have hb := HB1.out.on hkr.out (fun k hk e => by have := HBASE.out k e; omega)
      clear b0 b1 b2 b3 b8
      obtain ⟨b0, b1, b2, b3, b4, b5, b6, b7, b8, b9⟩ := hb
      have HBR := Lib.hid (⟨b0, b1, b2, b3, b4, b5, b6, b7, b8, b9⟩ : Bx w wr lo1 lo2 (.slice a1 n c1) (.slice a2 m c2))
      by_cases hlt : k < mn
      · have hkn : k < n := by omega
        have hkm : k < m := by omega
        obtain ⟨gb, hgb⟩ := row_slice2 ho.out (by omega)
        subst hgb
        obtain ⟨g2, off2, ha2, hg2, hc2⟩ := HK2.out k hkm
        subst ha2
        have hlt1 : (k : Int) < (mn : Int) := by omega
        have hlt2 : (k : Int) < (n : Int) := by omega
        have hlt3 : (k : Int) < (m : Int) := by omega
        have hk0 : (0 : Int) ≤ (k : Int) := by omega
        have ck := (b9.cell (p := ⟨g2, off2 + k, none⟩) hg2 (fun h => h)).trans hc2
        have hgk : g k = anN (h k) (wordN (K / 2 ^ 64) k) := by rw [HG.out, HHH.out]
        have hyl : h k < 18446744073709551616 := by rw [HHH.out]; exact wordN_lt _ _
        have hand : bits .andNot .u64 (h k : Int) (wordN (K / 2 ^ 64) k : Int) = (g k : Int) := by rw [hgk]; exact u64_anN _ _ hyl (wordN_lt _ _)
        have cq : wr.cell? ⟨gb, k, none⟩ = some (.int .u64 (h k : Nat)) := by
          rw [ho.out.cellAt k (by omega), wv_getD _ _ (by rw [mixG_length]; exact hkn), mixG_getD _ _ _ _ hkn]
        have fq : wr.frozen? ⟨gb, k, none⟩ = false := ho.out.frozenAt k
        have hst := ho.out.stored k (.int .u64 (g k : Nat))
        rw [wv_set, mixG_set _ _ n k hkn] at hst
        have HSTK := Lib.hid hst.1
        generalize h k = y at cq hand
        generalize wordN (K / 2 ^ 64) k = zz at ck hand
        generalize g k = r at hand HSTK
        clear hgk hyl hst hc2 b4 b5 b6 b7 b9
        go_wp2_with fail
        go_region
        all_goals
          go_wp2
          go_roundw
          case rel => exact ⟨k + 1, by omega, by go_num, HSTK.out, Lib.hid (hkr.out.trans (Kept.setCell (fun k => (Value.slice (some ⟨gb, 0, none⟩) n c').ownBlock = some k) wr ⟨gb, k, none⟩ (.int .u64 (r : Int)) rfl).drew (fun _ _ h => h) (fun _ _ h => h))⟩
          case measure => simp [intOf]; omega
      · have hkn : k = mn := by omega
        have hen := HEND.out k (by omega)
        have hme := HME.out
        have hx1 : (¬ (k : Int) < (n : Int) ∧ n ≤ m) ∨ (¬ (k : Int) < (m : Int) ∧ m < n) := by omega
        have ho2 := ho.out
        rw [hen] at ho2
        have hwd := words_row ho2
        have HWD := Lib.hid hwd; have HKR := Lib.hid hkr.out; have HO2 := Lib.hid ho2
        have ne1 : ¬ w.heap.size = w.heap.size + 1 + 1 := by omega
        have ne2 : ¬ w.heap.size + 1 = w.heap.size + 1 + 1 := by omega
        have ne3 : ¬ w.heap.size + 1 + 1 = w.heap.size := by omega
        clear ho hkr hen hme ho2 hwd HO1 b9
        rcases hx1 with ⟨hx1, hx2⟩ | ⟨hx1, hx2⟩
        all_goals
          first
            | (exfalso; omega)
            | (clear hkn
               go_wp2_with fail
               go_region_held3 (fun w' => w'.cell? ⟨w.heap.size, 0, none⟩ = some (.int .u64 (lo1 : Int)) ∧ w'.cell? ⟨w.heap.size + 1, 0, none⟩ = some (.int .u64 (lo2 : Int)))
                 (first | go_keep)
                 ((go_at_call 65; refine (trim_any _ _ _ (show Words wr.drew _ _ from HWD.out)).mono ?_; rintro e w1 ⟨hv, rfl, ht, rfl⟩; obtain ⟨a, mt, c, rfl⟩ := ht.form; have HT := Lib.hid ht; clear ht))
               go_wp2
               have KS : Kept (fun k => k = w.heap.size + 1 + 1) wr.drew ((wr.setCell ⟨w.heap.size + 1 + 1, 0, none⟩ (.int .u64 (z : Int))).setCell ⟨w.heap.size + 1 + 1, 1, none⟩ (.slice a mt c)).drew :=
                 ((Kept.setCell (fun k => k = w.heap.size + 1 + 1) _ ⟨w.heap.size + 1 + 1, 0, none⟩ _ rfl).trans (Kept.setCell (fun k => k = w.heap.size + 1 + 1) _ ⟨w.heap.size + 1 + 1, 1, none⟩ _ rfl) (fun _ _ h => h) (fun _ _ h => h)).drews
               obtain ⟨t1, t2⟩ := trim_set (w := w) HT.out rfl HLT.out HZ.out KS (fun k hk e => by have := HBASE.out k hk; omega)
               refine bodyPost_ret (v := .agg #[.int .u64 z, .slice a mt c]) (by simp [results, Tryd.results34, go_sem, b4, b5]) rfl ⟨_, rfl, t1, ?_, (HBR.out.fin _ _).drew⟩
               rintro k ⟨lo, hv, he, hb⟩
               cases he
               have := HBASE.out k (t2 k hb)
               omega)

/-- Minus, of any two sets. -/
theorem minus_any (w : World) (v u : Value) (M K : Nat) (hv : SetV w v M) (hu : SetV w u K) (hS : Small M) (hS2 : Small K) :
    Calls Tryd.prog 34 #[v, u] w fun e w' => ∃ v', e = .returned v' ∧ SetV w' v' (anN M K) ∧ (∀ k, setBlk v' k → setBlk v k ∨ w.heap.size ≤ k) ∧ Kept (fun _ => False) w w' := by
  obtain ⟨x, hs, rfl, hw, hc, _⟩ := hv.ex
  obtain ⟨y, ks, rfl, hw2, hc2, _⟩ := hu.ex
  obtain ⟨a1, c1, rfl⟩ := hw.form
  obtain ⟨a2, c2, rfl⟩ := hw2.form
  by_cases h0 : ks.length = 0
  · have hK : K / 2 ^ 64 = 0 := hc2.nil.1 h0
    rw [h0]
    refine (minus_nil w M K a1 c1 hs a2 c2 hw hc hK).mono ?_
    rintro e w' ⟨v', rfl, h1, h2, h3⟩
    exact ⟨v', rfl, h1, fun k hk => (h2 k hk).imp (fun h => ⟨_, _, rfl, h⟩) id, h3⟩
  · refine (minus_some w M K a1 c1 hs ks a2 c2 hw hc (hc.small hS) hw2 hc2 (hc2.small hS2) (by omega)).mono ?_
    rintro e w' ⟨v', rfl, h1, h2, h3⟩
    exact ⟨v', rfl, h1, fun k hk => Or.inr (h2 k hk), h3⟩
end Go.Proofs.YtjglnpijngdpkaaDoor
/-
  bits.Set.Or.
-/
namespace Go.Proofs.YtjglnpijngdpkaaDoor
open Go.RowKit

set_option maxRecDepth 100000 in
set_option maxHeartbeats 3200000 in
theorem or_b (w : World) (M K : Nat) (a1 : Option Addr) (c1 : Nat) (hs ks : List Nat) (a2 : Option Addr) (c2 : Nat) (hw : Words w (.slice a1 hs.length c1) hs) (hc : Canon hs (M / 2 ^ 64)) (hl : hs.length ≤ 63)
    (hw2 : Words w (.slice a2 ks.length c2) ks) (hc2 : Canon ks (K / 2 ^ 64)) (hl2 : ks.length ≤ 63) (hpos : 0 < ks.length) (hle : ks.length ≤ hs.length) :
    Calls Tryd.prog 32 #[.agg #[.int .u64 (M % 2 ^ 64 : Nat), .slice a1 hs.length c1], .agg #[.int .u64 (K % 2 ^ 64 : Nat), .slice a2 ks.length c2]] w fun e w' => ∃ v', e = .returned v' ∧ SetV w' v' ((M ||| K)) ∧ (∀ k, setBlk v' k → w.heap.size ≤ k) ∧ Kept (fun _ => False) w w' := by
  obtain ⟨n, hn⟩ : ∃ n, n = hs.length := ⟨_, rfl⟩
  obtain ⟨m, hm⟩ : ∃ n, n = ks.length := ⟨_, rfl⟩
  obtain ⟨lo1, hl1⟩ : ∃ l, l = M % 2 ^ 64 := ⟨_, rfl⟩
  obtain ⟨lo2, hl2'⟩ : ∃ l, l = K % 2 ^ 64 := ⟨_, rfl⟩
  obtain ⟨z, hz⟩ : ∃ z, z = lo1 ||| lo2 := ⟨_, rfl⟩
  have hl1b : lo1 < 18446744073709551616 := by rw [hl1]; exact Nat.mod_lt _ (by decide)
  have hl2b : lo2 < 18446744073709551616 := by rw [hl2']; exact Nat.mod_lt _ (by decide)
  have hx : bits .or .u64 (lo1 : Int) (lo2 : Int) = (z : Int) := by rw [hz]; exact u64_or_nat _ _ hl1b hl2b
  have hx2 : bits .or .u64 (lo2 : Int) (lo1 : Int) = (z : Int) := by rw [hz, u64_or_nat _ _ hl2b hl1b, Nat.or_comm]
  have hzm : z = (M ||| K) % 2 ^ 64 := by rw [mod_or, hz, hl1, hl2']
  obtain ⟨g, hg⟩ : ∃ g : Nat → Nat, g = fun j => wordN (M / 2 ^ 64) j ||| wordN (K / 2 ^ 64) j := ⟨_, rfl⟩
  obtain ⟨h, hh⟩ : ∃ h : Nat → Nat, h = wordN (M / 2 ^ 64) := ⟨_, rfl⟩
  have hgw : ∀ j, g j = wordN ((M ||| K) / 2 ^ 64) j := fun j => by rw [hg, div_or, wordN_or]
  have hgh : ∀ j, m ≤ j → g j = h j := fun j hj => by
    rw [hg, hh]
    show _ ||| (wordN (K / 2 ^ 64) j) = _
    rw [canon_word hc2 j (by omega), Nat.or_zero]
  have hst : wv hs = wv (mixG g h n 0) := by
    rw [mixG_zero, hh, ← wl_word, hn]
    congr 1
    exact hc.eq
  have hend : ∀ k, (m ≤ k ∨ n ≤ k) → mixG g h n k = wl ((M ||| K) / 2 ^ 64) n := fun k hk => by
    rw [mixG_end g h n k (fun j h1 h2 => hgh j (by omega)), wl_word]
    exact List.map_congr_left fun j _ => hgw j
  have hcan : Canon (wl ((M ||| K) / 2 ^ 64) n) ((M ||| K) / 2 ^ 64) := by
    rw [div_or, hn]
    exact canon_or hc hc2 (by omega)
  have hk2 : ∀ i, i < m → ∃ gg off, a2 = some ⟨gg, off, none⟩ ∧ gg < w.heap.size ∧ w.cell? ⟨gg, off + i, none⟩ = some (.int .u64 (wordN (K / 2 ^ 64) i : Nat)) := fun i hi => by
    obtain ⟨a, c, e, _, hcell⟩ := words_form hw2
    cases e
    obtain ⟨gg, off, e1, e2, e3⟩ := hcell i (by omega)
    exact ⟨gg, off, e1, e2, by rw [e3, canon_getD hc2 i (by omega)]⟩
  rw [← hl1, ← hl2']
  rw [← hn] at hw hl hle ⊢
  rw [← hm] at hw2 hl2 hpos hle ⊢
  have hwlt := hw.lt
  have HW := Lib.hid hw; have HCAN := Lib.hid hcan; have HZ := Lib.hid hzm; have HST := Lib.hid hst; have HEND := Lib.hid hend; have HK2 := Lib.hid hk2; have HNN := Lib.hid hn
  have HG := Lib.hid hg; have HHH := Lib.hid hh
  have BX := Lib.hid (Bx.new w lo1 lo2 a1 n c1 a2 m c2)
  unfold bxW at BX
  clear hw hw2 hcan hzm hz hl1 hl2' hl1b hl2b hc hc2 hm hgw hgh hst hend hk2 hg hh hn
  have hp : (0 : Int) < (m : Int) := by omega
  have hnm : ¬ (n : Int) < (m : Int) := by omega
  go_enter Tryd.func32, Tryd.ntmps32
  go_wp2_with fail
  obtain ⟨wS, hwS⟩ : ∃ W, W = ((w.alloc (.cells #[.int .u64 lo1, .slice a1 n c1] 57)).alloc (.cells #[.int .u64 lo2, .slice a2 m c2] 57)).alloc (.cells #[.int .u64 0, .slice none 0 0] 57) := ⟨_, rfl⟩
  rw [← hwS] at BX ⊢
  clear hwS
  refine (uclone_any _ hs _ (HW.out.kept BX.out.kept (fun _ _ h => h)) (by have := HNN.out; omega)).mono ?_
  rintro e w1 ⟨v', rfl, hown, hk1⟩
  have hb := BX.out.on hk1 (fun _ _ h => h)
  have hA2 : w.heap.size + 2 < wS.heap.size := BX.out.lt
  rw [← HNN.out, HST.out] at hown
  obtain ⟨⟨a', c', rfl⟩, hbase⟩ := row_form2 hown
  generalize wS.heap.size = base at hown hbase hA2
  have HB1 := Lib.hid hb; have HO1 := Lib.hid hown; have HBASE := Lib.hid hbase
  obtain ⟨b0, b1, b2, b3, b4, b5, b6, b7, b8, b9⟩ := hb
  clear hk1 hown hbase BX b4 b5 b6 b7 b9
  go_wp2_with fail
  go_loopw [28] (fun iv wr => ∃ k : Nat, k ≤ m ∧ iv = .int .i64 k ∧ Hid (wr.ownsRow base 54 1 (.slice a' n c') n (wv (mixG g h n k))) ∧ Hid (Kept (fun k => (Value.slice a' n c').ownBlock = some k) w1 wr)) (fun iv _ => m - (intOf iv).toNat)
  case atStart => exact ⟨0, Nat.zero_le _, rfl, HO1.out, Kept.refl _ _⟩
  case round =>
    obtain ⟨k, hk, rfl, ho, hkr⟩ := hrel
    have hb := HB1.out.on hkr.out (fun k hk e => by have := HBASE.out k e; omega)
    clear b0 b1 b2 b3 b8
    obtain ⟨b0, b1, b2, b3, b4, b5, b6, b7, b8, b9⟩ := hb
    have HBR := Lib.hid (⟨b0, b1, b2, b3, b4, b5, b6, b7, b8, b9⟩ : Bx w wr lo1 lo2 (.slice a1 n c1) (.slice a2 m c2))
    by_cases hlt : k < m
    · have hkn : k < n := by omega
      have hkm : k < m := by omega
      obtain ⟨gb, hgb⟩ := row_slice2 ho.out (by omega)
      subst hgb
      obtain ⟨g2, off2, ha2, hg2, hc2⟩ := HK2.out k hkm
      subst ha2
      have hlt2 : (k : Int) < (n : Int) := by omega
      have hlt3 : (k : Int) < (m : Int) := by omega
      have hk0 : (0 : Int) ≤ (k : Int) := by omega
      have ck := (b9.cell (p := ⟨g2, off2 + k, none⟩) hg2 (fun h => h)).trans hc2
      have hgk : g k = h k ||| wordN (K / 2 ^ 64) k := by rw [HG.out, HHH.out]
      have hyl : h k < 18446744073709551616 := by rw [HHH.out]; exact wordN_lt _ _
      have hand : bits .or .u64 (h k : Int) (wordN (K / 2 ^ 64) k : Int) = (g k : Int) := by rw [hgk]; exact u64_or_nat _ _ hyl (wordN_lt _ _)
      have cq : wr.cell? ⟨gb, k, none⟩ = some (.int .u64 (h k : Nat)) := by
        rw [ho.out.cellAt k (by omega), wv_getD _ _ (by rw [mixG_length]; exact hkn), mixG_getD _ _ _ _ hkn]
      have fq : wr.frozen? ⟨gb, k, none⟩ = false := ho.out.frozenAt k
      have hst := ho.out.stored k (.int .u64 (g k : Nat))
      rw [wv_set, mixG_set _ _ n k hkn] at hst
      have HSTK := Lib.hid hst.1
      generalize h k = y at cq hand
      generalize wordN (K / 2 ^ 64) k = zz at ck hand
      generalize g k = r at hand HSTK
      clear hgk hyl hst hc2 b4 b5 b6 b7 b9
      go_wp2_with fail
      go_region
      all_goals
        go_wp2
        go_roundw
        case rel => exact ⟨k + 1, by omega, by go_num, HSTK.out, Lib.hid (hkr.out.trans (Kept.setCell (fun k => (Value.slice (some ⟨gb, 0, none⟩) n c').ownBlock = some k) wr ⟨gb, k, none⟩ (.int .u64 (r : Int)) rfl).drew (fun _ _ h => h) (fun _ _ h => h))⟩
        case measure => simp [intOf]; omega
    · have hkn : k = m := by omega
      have hen := HEND.out k (by omega)
      have hx1 : ¬ (k : Int) < (m : Int) := by omega
      have ho2 := ho.out
      rw [hen] at ho2
      have hwd := words_row ho2
      have HWD := Lib.hid hwd
      clear ho hkr hen ho2 hwd HO1 b9 hkn
      go_wp2_with fail
      have KS : Kept (fun k => k = w.heap.size + 1 + 1) wr ((wr.setCell ⟨w.heap.size + 1 + 1, 0, none⟩ (.int .u64 (z : Int))).setCell ⟨w.heap.size + 1 + 1, 1, none⟩ (.slice a' n c')) :=
        (Kept.setCell (fun k => k = w.heap.size + 1 + 1) _ ⟨w.heap.size + 1 + 1, 0, none⟩ _ rfl).trans (Kept.setCell (fun k => k = w.heap.size + 1 + 1) _ ⟨w.heap.size + 1 + 1, 1, none⟩ _ rfl) (fun _ _ h => h) (fun _ _ h => h)
      refine bodyPost_ret (v := .agg #[.int .u64 z, .slice a' n c']) (by simp [results, Tryd.results32, go_sem, b4, b5]) rfl ⟨_, rfl, ⟨⟨_, _, by rw [HZ.out], HWD.out.kept KS (fun k hk e => by have := HBASE.out k hk; omega), HCAN.out, fun hnil => ?_⟩⟩, ?_, HBR.out.fin _ _⟩
      · have := congrArg List.length hnil
        rw [wl_length, List.length_nil] at this
        omega
      · rintro k ⟨lo, hv, he, hb⟩
        cases he
        have := HBASE.out k hb
        omega

set_option maxRecDepth 100000 in
set_option maxHeartbeats 3200000 in
theorem or_d (w : World) (M K : Nat) (a1 : Option Addr) (c1 : Nat) (hs ks : List Nat) (a2 : Option Addr) (c2 : Nat) (hw : Words w (.slice a1 hs.length c1) hs) (hc : Canon hs (M / 2 ^ 64)) (hl : hs.length ≤ 63)
    (hw2 : Words w (.slice a2 ks.length c2) ks) (hc2 : Canon ks (K / 2 ^ 64)) (hl2 : ks.length ≤ 63) (hpos : 0 < ks.length) (hle : ks.length < hs.length) :
    Calls Tryd.prog 32 #[.agg #[.int .u64 (K % 2 ^ 64 : Nat), .slice a2 ks.length c2], .agg #[.int .u64 (M % 2 ^ 64 : Nat), .slice a1 hs.length c1]] w fun e w' => ∃ v', e = .returned v' ∧ SetV w' v' ((M ||| K)) ∧ (∀ k, setBlk v' k → w.heap.size ≤ k) ∧ Kept (fun _ => False) w w' := by
  obtain ⟨n, hn⟩ : ∃ n, n = hs.length := ⟨_, rfl⟩
  obtain ⟨m, hm⟩ : ∃ n, n = ks.length := ⟨_, rfl⟩
  obtain ⟨lo1, hl1⟩ : ∃ l, l = M % 2 ^ 64 := ⟨_, rfl⟩
  obtain ⟨lo2, hl2'⟩ : ∃ l, l = K % 2 ^ 64 := ⟨_, rfl⟩
  obtain ⟨z, hz⟩ : ∃ z, z = lo1 ||| lo2 := ⟨_, rfl⟩
  have hl1b : lo1 < 18446744073709551616 := by rw [hl1]; exact Nat.mod_lt _ (by decide)
  have hl2b : lo2 < 18446744073709551616 := by rw [hl2']; exact Nat.mod_lt _ (by decide)
  have hx : bits .or .u64 (lo1 : Int) (lo2 : Int) = (z : Int) := by rw [hz]; exact u64_or_nat _ _ hl1b hl2b
  have hx2 : bits .or .u64 (lo2 : Int) (lo1 : Int) = (z : Int) := by rw [hz, u64_or_nat _ _ hl2b hl1b, Nat.or_comm]
  have hzm : z = (M ||| K) % 2 ^ 64 := by rw [mod_or, hz, hl1, hl2']
  obtain ⟨g, hg⟩ : ∃ g : Nat → Nat, g = fun j => wordN (M / 2 ^ 64) j ||| wordN (K / 2 ^ 64) j := ⟨_, rfl⟩
  obtain ⟨h, hh⟩ : ∃ h : Nat → Nat, h = wordN (M / 2 ^ 64) := ⟨_, rfl⟩
  have hgw : ∀ j, g j = wordN ((M ||| K) / 2 ^ 64) j := fun j => by rw [hg, div_or, wordN_or]
  have hgh : ∀ j, m ≤ j → g j = h j := fun j hj => by
    rw [hg, hh]
    show _ ||| (wordN (K / 2 ^ 64) j) = _
    rw [canon_word hc2 j (by omega), Nat.or_zero]
  have hst : wv hs = wv (mixG g h n 0) := by
    rw [mixG_zero, hh, ← wl_word, hn]
    congr 1
    exact hc.eq
  have hend : ∀ k, (m ≤ k ∨ n ≤ k) → mixG g h n k = wl ((M ||| K) / 2 ^ 64) n := fun k hk => by
    rw [mixG_end g h n k (fun j h1 h2 => hgh j (by omega)), wl_word]
    exact List.map_congr_left fun j _ => hgw j
  have hcan : Canon (wl ((M ||| K) / 2 ^ 64) n) ((M ||| K) / 2 ^ 64) := by
    rw [div_or, hn]
    exact canon_or hc hc2 (by omega)
  have hk2 : ∀ i, i < m → ∃ gg off, a2 = some ⟨gg, off, none⟩ ∧ gg < w.heap.size ∧ w.cell? ⟨gg, off + i, none⟩ = some (.int .u64 (wordN (K / 2 ^ 64) i : Nat)) := fun i hi => by
    obtain ⟨a, c, e, _, hcell⟩ := words_form hw2
    cases e
    obtain ⟨gg, off, e1, e2, e3⟩ := hcell i (by omega)
    exact ⟨gg, off, e1, e2, by rw [e3, canon_getD hc2 i (by omega)]⟩
  rw [← hl1, ← hl2']
  rw [← hn] at hw hl hle ⊢
  rw [← hm] at hw2 hl2 hpos hle ⊢
  have hwlt := hw.lt
  have HW := Lib.hid hw; have HCAN := Lib.hid hcan; have HZ := Lib.hid hzm; have HST := Lib.hid hst; have HEND := Lib.hid hend; have HK2 := Lib.hid hk2; have HNN := Lib.hid hn
  have HG := Lib.hid hg; have HHH := Lib.hid hh
  have BX := Lib.hid (Bx.new w lo1 lo2 a1 n c1 a2 m c2)
  unfold bxW at BX
  clear hw hw2 hcan hzm hz hl1 hl2' hl1b hl2b hc hc2 hm hgw hgh hst hend hk2 hg hh hn
  have hp : (0 : Int) < (m : Int) := by omega
  have hnm : (m : Int) < (n : Int) := by omega
  go_enter Tryd.func32, Tryd.ntmps32
  go_wp2_with fail
  obtain ⟨wS, hwS⟩ : ∃ W, W = ((w.alloc (.cells #[.int .u64 lo1, .slice a1 n c1] 57)).alloc (.cells #[.int .u64 lo2, .slice a2 m c2] 57)).alloc (.cells #[.int .u64 0, .slice none 0 0] 57) := ⟨_, rfl⟩
  rw [← hwS] at BX ⊢
  clear hwS
  refine (uclone_any _ hs _ (HW.out.kept BX.out.kept (fun _ _ h => h)) (by have := HNN.out; omega)).mono ?_
  rintro e w1 ⟨v', rfl, hown, hk1⟩
  have hb := BX.out.on hk1 (fun _ _ h => h)
  have hA2 : w.heap.size + 2 < wS.heap.size := BX.out.lt
  rw [← HNN.out, HST.out] at hown
  obtain ⟨⟨a', c', rfl⟩, hbase⟩ := row_form2 hown
  generalize wS.heap.size = base at hown hbase hA2
  have HB1 := Lib.hid hb; have HO1 := Lib.hid hown; have HBASE := Lib.hid hbase
  obtain ⟨b0, b1, b2, b3, b4, b5, b6, b7, b8, b9⟩ := hb
  clear hk1 hown hbase BX b4 b5 b6 b7 b9
  go_wp2_with fail
  go_loopw [28] (fun iv wr => ∃ k : Nat, k ≤ m ∧ iv = .int .i64 k ∧ Hid (wr.ownsRow base 54 1 (.slice a' n c') n (wv (mixG g h n k))) ∧ Hid (Kept (fun k => (Value.slice a' n c').ownBlock = some k) w1 wr)) (fun iv _ => m - (intOf iv).toNat)
  case atStart => exact ⟨0, Nat.zero_le _, rfl, HO1.out, Kept.refl _ _⟩
  case round =>
    obtain ⟨k, hk, rfl, ho, hkr⟩ := hrel
    have hb := HB1.out.on hkr.out (fun k hk e => by have := HBASE.out k e; omega)
    clear b0 b1 b2 b3 b8
    obtain ⟨b0, b1, b2, b3, b4, b5, b6, b7, b8, b9⟩ := hb
    have HBR := Lib.hid (⟨b0, b1, b2, b3, b4, b5, b6, b7, b8, b9⟩ : Bx w wr lo1 lo2 (.slice a1 n c1) (.slice a2 m c2))
    by_cases hlt : k < m
    · have hkn : k < n := by omega
      have hkm : k < m := by omega
      obtain ⟨gb, hgb⟩ := row_slice2 ho.out (by omega)
      subst hgb
      obtain ⟨g2, off2, ha2, hg2, hc2⟩ := HK2.out k hkm
      subst ha2
      have hlt2 : (k : Int) < (n : Int) := by omega
      have hlt3 : (k : Int) < (m : Int) := by omega
      have hk0 : (0 : Int) ≤ (k : Int) := by omega
      have ck := (b9.cell (p := ⟨g2, off2 + k, none⟩) hg2 (fun h => h)).trans hc2
      have hgk : g k = h k ||| wordN (K / 2 ^ 64) k := by rw [HG.out, HHH.out]
      have hyl : h k < 18446744073709551616 := by rw [HHH.out]; exact wordN_lt _ _
      have hand : bits .or .u64 (h k : Int) (wordN (K / 2 ^ 64) k : Int) = (g k : Int) := by rw [hgk]; exact u64_or_nat _ _ hyl (wordN_lt _ _)
      have cq : wr.cell? ⟨gb, k, none⟩ = some (.int .u64 (h k : Nat)) := by
        rw [ho.out.cellAt k (by omega), wv_getD _ _ (by rw [mixG_length]; exact hkn), mixG_getD _ _ _ _ hkn]
      have fq : wr.frozen? ⟨gb, k, none⟩ = false := ho.out.frozenAt k
      have hst := ho.out.stored k (.int .u64 (g k : Nat))
      rw [wv_set, mixG_set _ _ n k hkn] at hst
      have HSTK := Lib.hid hst.1
      generalize h k = y at cq hand
      generalize wordN (K / 2 ^ 64) k = zz at ck hand
      generalize g k = r at hand HSTK
      clear hgk hyl hst hc2 b4 b5 b6 b7 b9
      go_wp2_with fail
      go_region
      all_goals
        go_wp2
        go_roundw
        case rel => exact ⟨k + 1, by omega, by go_num, HSTK.out, Lib.hid (hkr.out.trans (Kept.setCell (fun k => (Value.slice (some ⟨gb, 0, none⟩) n c').ownBlock = some k) wr ⟨gb, k, none⟩ (.int .u64 (r : Int)) rfl).drew (fun _ _ h => h) (fun _ _ h => h))⟩
        case measure => simp [intOf]; omega
    · have hkn : k = m := by omega
      have hen := HEND.out k (by omega)
      have hx1 : ¬ (k : Int) < (m : Int) := by omega
      have ho2 := ho.out
      rw [hen] at ho2
      have hwd := words_row ho2
      have HWD := Lib.hid hwd
      clear ho hkr hen ho2 hwd HO1 b9 hkn
      go_wp2_with fail
      have KS : Kept (fun k => k = w.heap.size + 1 + 1) wr ((wr.setCell ⟨w.heap.size + 1 + 1, 0, none⟩ (.int .u64 (z : Int))).setCell ⟨w.heap.size + 1 + 1, 1, none⟩ (.slice a' n c')) :=
        (Kept.setCell (fun k => k = w.heap.size + 1 + 1) _ ⟨w.heap.size + 1 + 1, 0, none⟩ _ rfl).trans (Kept.setCell (fun k => k = w.heap.size + 1 + 1) _ ⟨w.heap.size + 1 + 1, 1, none⟩ _ rfl) (fun _ _ h => h) (fun _ _ h => h)
      refine bodyPost_ret (v := .agg #[.int .u64 z, .slice a' n c']) (by simp [results, Tryd.results32, go_sem, b4, b5]) rfl ⟨_, rfl, ⟨⟨_, _, by rw [HZ.out], HWD.out.kept KS (fun k hk e => by have := HBASE.out k hk; omega), HCAN.out, fun hnil => ?_⟩⟩, ?_, HBR.out.fin _ _⟩
      · have := congrArg List.length hnil
        rw [wl_length, List.length_nil] at this
        omega
      · rintro k ⟨lo, hv, he, hb⟩
        cases he
        have := HBASE.out k hb
        omega

set_option maxRecDepth 100000 in
set_option maxHeartbeats 3200000 in
theorem or_a (w : World) (M K : Nat) (a1 : Option Addr) (c1 : Nat) (hs : List Nat) (a2 : Option Addr) (c2 : Nat) (hw : Words w (.slice a1 hs.length c1) hs) (hc : Canon hs (M / 2 ^ 64)) (hK : K / 2 ^ 64 = 0) (hnil : hs = [] → (Value.slice a1 hs.length c1) = .slice none 0 0) :
    Calls Tryd.prog 32 #[.agg #[.int .u64 (M % 2 ^ 64 : Nat), .slice a1 hs.length c1], .agg #[.int .u64 (K % 2 ^ 64 : Nat), .slice a2 0 c2]] w fun e w' => ∃ v', e = .returned v' ∧ SetV w' v' (M ||| K) ∧ (∀ k, setBlk v' k → (Value.slice a1 hs.length c1).ownBlock = some k) ∧ Kept (fun _ => False) w w' := by
  obtain ⟨n, hn⟩ : ∃ n, n = hs.length := ⟨_, rfl⟩
  obtain ⟨lo1, hl1⟩ : ∃ l, l = M % 2 ^ 64 := ⟨_, rfl⟩
  obtain ⟨lo2, hl2⟩ : ∃ l, l = K % 2 ^ 64 := ⟨_, rfl⟩
  obtain ⟨z, hz⟩ : ∃ z, z = lo1 ||| lo2 := ⟨_, rfl⟩
  have hl1b : lo1 < 18446744073709551616 := by rw [hl1]; exact Nat.mod_lt _ (by decide)
  have hl2b : lo2 < 18446744073709551616 := by rw [hl2]; exact Nat.mod_lt _ (by decide)
  have hx : bits .or .u64 (lo1 : Int) (lo2 : Int) = (z : Int) := by rw [hz]; exact u64_or_nat _ _ hl1b hl2b
  have hzm : z = (M ||| K) % 2 ^ 64 := by rw [mod_or, hz, hl1, hl2]
  have hdv : (M ||| K) / 2 ^ 64 = M / 2 ^ 64 := by rw [div_or, hK, Nat.or_zero]
  have hcan : Canon hs ((M ||| K) / 2 ^ 64) := by rw [hdv]; exact hc
  rw [← hl1, ← hl2]
  rw [← hn] at hw hnil ⊢
  have hwlt := hw.lt
  have HW := Lib.hid hw; have HC := Lib.hid hcan; have HZ := Lib.hid hzm; have HNIL := Lib.hid hnil
  clear hw hcan hzm hz hl1 hl2 hl1b hl2b hdv hc hn hK hnil
  have hnm : ¬ (n : Int) < (0 : Int) := by omega
  go_enter Tryd.func32, Tryd.ntmps32
  go_wp2_with fail
  have KS : Kept (fun _ => False) w (((w.alloc (.cells #[.int .u64 lo1, .slice a1 n c1] 57)).alloc (.cells #[.int .u64 lo2, .slice a2 0 c2] 57)).alloc (.cells #[.int .u64 z, .slice a1 n c1] 57)) := ((Kept.alloc _ _ _).then (Kept.alloc _ _ _)).then (Kept.alloc _ _ _)
  refine bodyPost_ret (v := .agg #[.int .u64 z, .slice a1 n c1]) (by simp [results, Tryd.results32, go_sem]) rfl ⟨_, rfl, ⟨⟨_, _, by rw [HZ.out], HW.out.kept KS (fun _ _ h => h), HC.out, HNIL.out⟩⟩, ?_, KS⟩
  rintro k ⟨lo, hv, he, hb⟩
  cases he
  exact hb

set_option maxRecDepth 100000 in
set_option maxHeartbeats 3200000 in
theorem or_c (w : World) (M K : Nat) (a1 : Option Addr) (c1 : Nat) (hs : List Nat) (a2 : Option Addr) (c2 : Nat) (hw : Words w (.slice a1 hs.length c1) hs) (hc : Canon hs (M / 2 ^ 64)) (hK : K / 2 ^ 64 = 0) (hnil : hs = [] → (Value.slice a1 hs.length c1) = .slice none 0 0) (hpos : 0 < hs.length) :
    Calls Tryd.prog 32 #[.agg #[.int .u64 (K % 2 ^ 64 : Nat), .slice a2 0 c2], .agg #[.int .u64 (M % 2 ^ 64 : Nat), .slice a1 hs.length c1]] w fun e w' => ∃ v', e = .returned v' ∧ SetV w' v' (M ||| K) ∧ (∀ k, setBlk v' k → (Value.slice a1 hs.length c1).ownBlock = some k) ∧ Kept (fun _ => False) w w' := by
  obtain ⟨n, hn⟩ : ∃ n, n = hs.length := ⟨_, rfl⟩
  obtain ⟨lo1, hl1⟩ : ∃ l, l = M % 2 ^ 64 := ⟨_, rfl⟩
  obtain ⟨lo2, hl2⟩ : ∃ l, l = K % 2 ^ 64 := ⟨_, rfl⟩
  obtain ⟨z, hz⟩ : ∃ z, z = lo1 ||| lo2 := ⟨_, rfl⟩
  have hl1b : lo1 < 18446744073709551616 := by rw [hl1]; exact Nat.mod_lt _ (by decide)
  have hl2b : lo2 < 18446744073709551616 := by rw [hl2]; exact Nat.mod_lt _ (by decide)
  have hx : bits .or .u64 (lo1 : Int) (lo2 : Int) = (z : Int) := by rw [hz]; exact u64_or_nat _ _ hl1b hl2b
  have hzm : z = (M ||| K) % 2 ^ 64 := by rw [mod_or, hz, hl1, hl2]
  have hdv : (M ||| K) / 2 ^ 64 = M / 2 ^ 64 := by rw [div_or, hK, Nat.or_zero]
  have hcan : Canon hs ((M ||| K) / 2 ^ 64) := by rw [hdv]; exact hc
  rw [← hl1, ← hl2]
  rw [← hn] at hw hnil hpos ⊢
  have hwlt := hw.lt
  have HW := Lib.hid hw; have HC := Lib.hid hcan; have HZ := Lib.hid hzm; have HNIL := Lib.hid hnil
  clear hw hcan hzm hz hl1 hl2 hl1b hl2b hdv hc hn hK hnil
  have hnm : (0 : Int) < (n : Int) := by omega
  go_enter Tryd.func32, Tryd.ntmps32
  go_wp2_with fail
  have KS : Kept (fun _ => False) w (((w.alloc (.cells #[.int .u64 lo1, .slice a1 n c1] 57)).alloc (.cells #[.int .u64 lo2, .slice a2 0 c2] 57)).alloc (.cells #[.int .u64 z, .slice a1 n c1] 57)) := ((Kept.alloc _ _ _).then (Kept.alloc _ _ _)).then (Kept.alloc _ _ _)
  refine bodyPost_ret (v := .agg #[.int .u64 z, .slice a1 n c1]) (by simp [results, Tryd.results32, go_sem]) rfl ⟨_, rfl, ⟨⟨_, _, by rw [HZ.out], HW.out.kept KS (fun _ _ h => h), HC.out, HNIL.out⟩⟩, ?_, KS⟩
  rintro k ⟨lo, hv, he, hb⟩
  cases he
  exact hb

/-- Or, of any two sets. -/
theorem or_any (w : World) (v u : Value) (M K : Nat) (hv : SetV w v M) (hu : SetV w u K) (hS : Small M) (hS2 : Small K) :
    Calls Tryd.prog 32 #[v, u] w fun e w' => ∃ v', e = .returned v' ∧ SetV w' v' (M ||| K) ∧ (∀ k, setBlk v' k → setBlk v k ∨ setBlk u k ∨ w.heap.size ≤ k) ∧ Kept (fun _ => False) w w' := by
  obtain ⟨x, hs, rfl, hw, hc, hn1⟩ := hv.ex
  obtain ⟨y, ks, rfl, hw2, hc2, hn2⟩ := hu.ex
  obtain ⟨a1, c1, rfl⟩ := hw.form
  obtain ⟨a2, c2, rfl⟩ := hw2.form
  by_cases hlt : hs.length < ks.length
  · by_cases h0 : hs.length = 0
    · have hM : M / 2 ^ 64 = 0 := hc.nil.1 h0
      rw [h0]
      refine (or_c w K M a2 c2 ks a1 c1 hw2 hc2 hM hn2 (by omega)).mono ?_
      rintro e w' ⟨v', rfl, h1, h2, h3⟩
      exact ⟨v', rfl, by rw [Nat.or_comm]; exact h1, fun k hk => Or.inr (Or.inl ⟨_, _, rfl, h2 k hk⟩), h3⟩
    · refine (or_d w K M a2 c2 ks hs a1 c1 hw2 hc2 (hc2.small hS2) hw hc (hc.small hS) (by omega) hlt).mono ?_
      rintro e w' ⟨v', rfl, h1, h2, h3⟩
      exact ⟨v', rfl, by rw [Nat.or_comm]; exact h1, fun k hk => Or.inr (Or.inr (h2 k hk)), h3⟩
  · by_cases h0 : ks.length = 0
    · have hK : K / 2 ^ 64 = 0 := hc2.nil.1 h0
      rw [h0]
      refine (or_a w M K a1 c1 hs a2 c2 hw hc hK hn1).mono ?_
      rintro e w' ⟨v', rfl, h1, h2, h3⟩
      exact ⟨v', rfl, h1, fun k hk => Or.inl ⟨_, _, rfl, h2 k hk⟩, h3⟩
    · refine (or_b w M K a1 c1 hs ks a2 c2 hw hc (hc.small hS) hw2 hc2 (hc2.small hS2) (by omega) (by omega)).mono ?_
      rintro e w' ⟨v', rfl, h1, h2, h3⟩
      exact ⟨v', rfl, h1, fun k hk => Or.inr (Or.inr (h2 k hk)), h3⟩
end Go.Proofs.YtjglnpijngdpkaaDoor
/-
  bits.Set.And.
-/
namespace Go.Proofs.YtjglnpijngdpkaaDoor
open Go.RowKit

set_option maxRecDepth 100000 in
set_option maxHeartbeats 3200000 in
theorem and_at (w : World) (M K : Nat) (a1 : Option Addr) (c1 : Nat) (hs ks : List Nat) (a2 : Option Addr) (c2 : Nat) (hw : Words w (.slice a1 hs.length c1) hs) (hc : Canon hs (M / 2 ^ 64)) (hl : hs.length ≤ 63)
    (hw2 : Words w (.slice a2 ks.length c2) ks) (hc2 : Canon ks (K / 2 ^ 64)) (hl2 : ks.length ≤ 63) :
    Calls Tryd.prog 40 #[.agg #[.int .u64 (M % 2 ^ 64 : Nat), .slice a1 hs.length c1], .agg #[.int .u64 (K % 2 ^ 64 : Nat), .slice a2 ks.length c2]] w fun e w' => ∃ v', e = .returned v' ∧ SetV w' v' ((M &&& K)) ∧ (∀ k, setBlk v' k → w.heap.size ≤ k) ∧ Kept (fun _ => False) w w' := by
  obtain ⟨i0, hin, hz0, hz1, hz2⟩ := info_parts info_u64
  obtain ⟨n, hn⟩ : ∃ n, n = hs.length := ⟨_, rfl⟩
  obtain ⟨m, hm⟩ : ∃ n, n = ks.length := ⟨_, rfl⟩
  obtain ⟨lo1, hl1⟩ : ∃ l, l = M % 2 ^ 64 := ⟨_, rfl⟩
  obtain ⟨lo2, hl2'⟩ : ∃ l, l = K % 2 ^ 64 := ⟨_, rfl⟩
  obtain ⟨z, hz⟩ : ∃ z, z = lo1 &&& lo2 := ⟨_, rfl⟩
  have hl1b : lo1 < 18446744073709551616 := by rw [hl1]; exact Nat.mod_lt _ (by decide)
  have hl2b : lo2 < 18446744073709551616 := by rw [hl2']; exact Nat.mod_lt _ (by decide)
  have hx : bits .and .u64 (lo1 : Int) (lo2 : Int) = (z : Int) := by rw [hz]; exact u64_and_nat _ _ hl1b hl2b
  have hzm : z = (M &&& K) % 2 ^ 64 := by rw [mod_and, hz, hl1, hl2']
  obtain ⟨g, hg⟩ : ∃ g : Nat → Nat, g = fun j => wordN (M / 2 ^ 64) j &&& wordN (K / 2 ^ 64) j := ⟨_, rfl⟩
  have hgw : ∀ j, g j = wordN ((M &&& K) / 2 ^ 64) j := fun j => by rw [hg, div_and, wordN_and]
  obtain ⟨mn, hmn, hmn1, hmn2⟩ : ∃ mn : Nat, ((n ≤ m ∧ mn = n) ∨ (m < n ∧ mn = m)) ∧ mn ≤ n ∧ mn ≤ m := by
    rcases Nat.lt_or_ge m n with h | h
    · exact ⟨m, Or.inr ⟨h, rfl⟩, by omega, by omega⟩
    · exact ⟨n, Or.inl ⟨h, rfl⟩, by omega, by omega⟩
  have hst : wv (List.replicate mn 0) = wv (mixG g (fun _ => 0) mn 0) := by
    rw [mixG_zero]
    congr 1
    exact List.ext_getElem (by simp) (by intros; simp)
  have hend : ∀ k, k = mn → mixG g (fun _ => 0) mn k = wl ((M &&& K) / 2 ^ 64) mn := fun k hk => by
    rw [mixG_end g _ mn k (fun j h1 h2 => by omega), wl_word]
    exact List.map_congr_left fun j _ => hgw j
  have hlt : (M &&& K) / 2 ^ 64 < 2 ^ (64 * mn) := by
    rw [div_and]
    rcases hmn with ⟨_, e⟩ | ⟨_, e⟩
    · rw [e, hn]; exact Nat.lt_of_le_of_lt Nat.and_le_left hc.lt
    · rw [e, hm]; exact Nat.lt_of_le_of_lt Nat.and_le_right hc2.lt
  have hk1 : ∀ i, i < n → ∃ gg off, a1 = some ⟨gg, off, none⟩ ∧ gg < w.heap.size ∧ w.cell? ⟨gg, off + i, none⟩ = some (.int .u64 (wordN (M / 2 ^ 64) i : Nat)) := fun i hi => by
    obtain ⟨a, c, e, _, hcell⟩ := words_form hw
    cases e
    obtain ⟨gg, off, e1, e2, e3⟩ := hcell i (by omega)
    exact ⟨gg, off, e1, e2, by rw [e3, canon_getD hc i (by omega)]⟩
  have hk2 : ∀ i, i < m → ∃ gg off, a2 = some ⟨gg, off, none⟩ ∧ gg < w.heap.size ∧ w.cell? ⟨gg, off + i, none⟩ = some (.int .u64 (wordN (K / 2 ^ 64) i : Nat)) := fun i hi => by
    obtain ⟨a, c, e, _, hcell⟩ := words_form hw2
    cases e
    obtain ⟨gg, off, e1, e2, e3⟩ := hcell i (by omega)
    exact ⟨gg, off, e1, e2, by rw [e3, canon_getD hc2 i (by omega)]⟩
  rw [← hl1, ← hl2']
  rw [← hn] at hw hl ⊢
  rw [← hm] at hw2 hl2 ⊢
  have hwlt := hw.lt
  have HLT := Lib.hid hlt; have HZ := Lib.hid hzm; have HST := Lib.hid hst; have HEND := Lib.hid hend; have HK1 := Lib.hid hk1; have HK2 := Lib.hid hk2
  have HG := Lib.hid hg
  have BX := Lib.hid (Bx.new w lo1 lo2 a1 n c1 a2 m c2)
  unfold bxW at BX
  clear hw hw2 hlt hzm hz hl1 hl2' hl1b hl2b hc hc2 hm hgw hst hend hk1 hk2 hg hn
  rcases hmn with ⟨h1, hme⟩ | ⟨h1, hme⟩
  all_goals
    have HME := Lib.hid hme; clear hme
    go_enter Tryd.func40, Tryd.ntmps40
    go_wp2_with (refine wpList_make_full _ rfl _ _ _ rfl (w.heap.size + 3) 54 i0 _ 1 Tryd.underlying55 hin hz0 hz1 _ _ _ _ mn rfl rfl (by have := HME.out; omega) (by have := HME.out; omega) (by rw [hz2]; omega) (by unfold maxLen; omega) (by simp) ?_)
    intro w1 hown hgrow
    have hb := BX.out.on (Kept.ofGrown (S := fun _ => False) hgrow (fun k e => by cases e)) (fun _ _ h => h)
    rw [wv_zero, HST.out] at hown
    obtain ⟨⟨a', c', hfm⟩, hbase⟩ := row_form2 hown
    rw [hfm] at hown hbase ⊢
    clear hfm
    obtain ⟨base, hbs⟩ : ∃ b, b = w.heap.size + 3 := ⟨_, rfl⟩
    rw [← hbs] at hown hbase
    have hA2 : w.heap.size + 2 < base := by omega
    clear hbs
    have HB1 := Lib.hid hb; have HO1 := Lib.hid hown; have HBASE := Lib.hid hbase
    obtain ⟨b0, b1, b2, b3, b4, b5, b6, b7, b8, b9⟩ := hb
    clear hgrow hown hbase BX b4 b5 b6 b7 b9
    go_wp2_with fail
    go_loopw [17] (fun iv wr => ∃ k : Nat, k ≤ mn ∧ iv = .int .i64 k ∧ Hid (wr.ownsRow base 54 1 (.slice a' mn c') mn (wv (mixG g (fun _ => 0) mn k))) ∧ Hid (Kept (fun k => (Value.slice a' mn c').ownBlock = some k) w1 wr)) (fun iv _ => mn - (intOf iv).toNat)
    case atStart => exact ⟨0, Nat.zero_le _, rfl, HO1.out, Kept.refl _ _⟩
    case round =>
      obtain ⟨k, hk, rfl, ho, hkr⟩ := hrel
      have hb := HB1.out.on hkr.out (fun k hk e => by have := HBASE.out k e; omega)
      clear b0 b1 b2 b3 b8
      obtain ⟨b0, b1, b2, b3, b4, b5, b6, b7, b8, b9⟩ := hb
      have HBR := Lib.hid (⟨b0, b1, b2, b3, b4, b5, b6, b7, b8, b9⟩ : Bx w wr lo1 lo2 (.slice a1 n c1) (.slice a2 m c2))
      by_cases hlt : k < mn
      · have hkn : k < n := by omega
        have hkm : k < m := by omega
        obtain ⟨gb, hgb⟩ := row_slice2 ho.out (by omega)
        subst hgb
        obtain ⟨g1, off1, ha1, hg1, hc1⟩ := HK1.out k hkn
        subst ha1
        obtain ⟨g2, off2, ha2, hg2, hc2⟩ := HK2.out k hkm
        subst ha2
        have ck1 := (b9.cell (p := ⟨g1, off1 + k, none⟩) hg1 (fun h => h)).trans hc1
        have hlt1 : (k : Int) < (mn : Int) := by omega
        have hlt2 : (k : Int) < (n : Int) := by omega
        have hlt3 : (k : Int) < (m : Int) := by omega
        have hk0 : (0 : Int) ≤ (k : Int) := by omega
        have ck := (b9.cell (p := ⟨g2, off2 + k, none⟩) hg2 (fun h => h)).trans hc2
        have hgk : g k = wordN (M / 2 ^ 64) k &&& wordN (K / 2 ^ 64) k := by rw [HG.out]
        have hand : bits .and .u64 (wordN (M / 2 ^ 64) k : Int) (wordN (K / 2 ^ 64) k : Int) = (g k : Int) := by rw [hgk]; exact u64_and_nat _ _ (wordN_lt _ _) (wordN_lt _ _)
        have cq : wr.cell? ⟨gb, k, none⟩ = some (.int .u64 (0 : Nat)) := by
          rw [ho.out.cellAt k (by omega), wv_getD _ _ (by rw [mixG_length]; exact hlt), mixG_getD _ _ _ _ hlt]
        have fq : wr.frozen? ⟨gb, k, none⟩ = false := ho.out.frozenAt k
        have hst := ho.out.stored k (.int .u64 (g k : Nat))
        rw [wv_set, mixG_set _ _ mn k hlt] at hst
        have HSTK := Lib.hid hst.1
        generalize wordN (M / 2 ^ 64) k = y at ck1 hand
        generalize wordN (K / 2 ^ 64) k = zz at ck hand
        generalize g k = r at hand HSTK
        clear hgk hst hc1 hc2 b4 b5 b6 b7 b9
        go_wp2_with fail
        go_region
        all_goals
          go_wp2
          go_roundw
          case rel => exact ⟨k + 1, by omega, by go_num, HSTK.out, Lib.hid (hkr.out.trans (Kept.setCell (fun k => (Value.slice (some ⟨gb, 0, none⟩) mn c').ownBlock = some k) wr ⟨gb, k, none⟩ (.int .u64 (r : Int)) rfl).drew (fun _ _ h => h) (fun _ _ h => h))⟩
          case measure => simp [intOf]; omega
      · have hkn : k = mn := by omega
        have hen := HEND.out k hkn
        have hme := HME.out
        have hx1 : (¬ (k : Int) < (n : Int) ∧ n ≤ m) ∨ (¬ (k : Int) < (m : Int) ∧ m < n) := by omega
        have ho2 := ho.out
        rw [hen] at ho2
        have hx0 : ¬ (k : Int) < (mn : Int) := by omega
        have hwd := words_row ho2
        have HWD := Lib.hid hwd; have HKR := Lib.hid hkr.out; have HO2 := Lib.hid ho2
        have ne1 : ¬ w.heap.size = w.heap.size + 1 + 1 := by omega
        have ne2 : ¬ w.heap.size + 1 = w.heap.size + 1 + 1 := by omega
        have ne3 : ¬ w.heap.size + 1 + 1 = w.heap.size := by omega
        clear ho hkr hen hme ho2 hwd HO1 b9
        rcases hx1 with ⟨hx1, hx2⟩ | ⟨hx1, hx2⟩
        all_goals
          first
            | (exfalso; omega)
            | (clear hkn
               go_wp2_with fail
               go_region_held3 (fun w' => w'.cell? ⟨w.heap.size, 0, none⟩ = some (.int .u64 (lo1 : Int)) ∧ w'.cell? ⟨w.heap.size + 1, 0, none⟩ = some (.int .u64 (lo2 : Int)))
                 (first | go_keep)
                 ((go_at_call 65; refine (trim_any _ _ _ (show Words wr.drew _ _ from HWD.out)).mono ?_; rintro e w1 ⟨hv, rfl, ht, rfl⟩; obtain ⟨a, mt, c, rfl⟩ := ht.form; have HT := Lib.hid ht; clear ht))
               go_wp2
               have KS : Kept (fun k => k = w.heap.size + 1 + 1) wr.drew ((wr.setCell ⟨w.heap.size + 1 + 1, 0, none⟩ (.int .u64 (z : Int))).setCell ⟨w.heap.size + 1 + 1, 1, none⟩ (.slice a mt c)).drew :=
                 ((Kept.setCell (fun k => k = w.heap.size + 1 + 1) _ ⟨w.heap.size + 1 + 1, 0, none⟩ _ rfl).trans (Kept.setCell (fun k => k = w.heap.size + 1 + 1) _ ⟨w.heap.size + 1 + 1, 1, none⟩ _ rfl) (fun _ _ h => h) (fun _ _ h => h)).drews
               obtain ⟨t1, t2⟩ := trim_set (w := w) HT.out rfl HLT.out HZ.out KS (fun k hk e => by have := HBASE.out k hk; omega)
               refine bodyPost_ret (v := .agg #[.int .u64 z, .slice a mt c]) (by simp [results, Tryd.results40, go_sem, b4, b5]) rfl ⟨_, rfl, t1, ?_, (HBR.out.fin _ _).drew⟩
               rintro k ⟨lo, hv, he, hb⟩
               cases he
               have := HBASE.out k (t2 k hb)
               omega)

theorem and_any (w : World) (v u : Value) (M K : Nat) (hv : SetV w v M) (hu : SetV w u K) (hS : Small M) (hS2 : Small K) :
    Calls Tryd.prog 40 #[v, u] w fun e w' => ∃ v', e = .returned v' ∧ SetV w' v' (M &&& K) ∧ (∀ k, setBlk v' k → w.heap.size ≤ k) ∧ Kept (fun _ => False) w w' := by
  obtain ⟨x, hs, rfl, hw, hc, _⟩ := hv.ex
  obtain ⟨y, ks, rfl, hw2, hc2, _⟩ := hu.ex
  obtain ⟨a1, c1, rfl⟩ := hw.form
  obtain ⟨a2, c2, rfl⟩ := hw2.form
  exact and_at w M K a1 c1 hs ks a2 c2 hw hc (hc.small hS) hw2 hc2 (hc2.small hS2)
end Go.Proofs.YtjglnpijngdpkaaDoor
