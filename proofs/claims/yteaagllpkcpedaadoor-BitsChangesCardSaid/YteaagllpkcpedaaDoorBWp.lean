/-
  bits.Set: Without.
-/
import Derived.Test.YteaagllpkcpedaaDoorBWo
namespace Go.Proofs.YteaagllpkcpedaaDoor
open Go.RowKit

/-- A result whose words were trimmed, in any block. -/
theorem trim_set1 {S : Nat → Prop} {W W' : World} {v hv : Value} {N n lo : Nat} {hs : List Nat} (ht : TrimRes W v hs hv) (hh : hs = wl (N / 2 ^ 64) n) (hN : N / 2 ^ 64 < 2 ^ (64 * n)) (hlo : lo = N % 2 ^ 64) (hk : Kept S W W') (hb : ∀ k, v.ownBlock = some k → ¬ S k) :
    SetV W' (.agg #[.int .u64 lo, hv]) N ∧ (∀ k, hv.ownBlock = some k → v.ownBlock = some k) := by
  obtain ⟨t, h1, h2, h3, h4⟩ := ht.ex
  subst hh
  have hcan := h1.canon hN
  have hbl : ∀ k, hv.ownBlock = some k → v.ownBlock = some k := fun k hk2 => by
    rcases h4 with h4 | h4
    · rw [h4] at hk2; cases hk2
    · rw [← h4]; exact hk2
  refine ⟨⟨⟨hv, _, by rw [hlo], h2.kept hk (fun k hk2 e => hb k (hbl k hk2) e), hcan, fun hnil => ?_⟩⟩, hbl⟩
  refine h3 ?_
  have := congrArg List.length hnil
  have hle := h1.le
  rw [List.length_take, wl_length, List.length_nil] at this
  rw [wl_length] at hle
  omega

set_option maxRecDepth 100000 in
set_option maxHeartbeats 1600000 in
theorem without_same (w : World) (v : Value) (M : Nat) (i : Int) (h : SetV w v M) (hb : (decide (0 ≤ i ∧ i ≤ 4095) && M.testBit i.toNat) = false) :
    Calls Tryd.prog 17 #[v, .int .i64 i] w fun e w' => e = .returned v ∧ Kept (fun _ => False) w w' := by
  have hset := h
  obtain ⟨hv, hs, rfl, hw, hc, hnil⟩ := h.ex
  obtain ⟨a, c, rfl⟩ := hw.form
  have HH := Lib.hid (fun (W : World) (kw : Kept (fun _ => False) w W) => hasI_any W _ M i (hset.onC kw))
  rw [hb] at HH
  clear hw hc hnil hset hb
  generalize hs.length = n at HH ⊢
  generalize M % 2 ^ 64 = lo at HH ⊢
  have KA := Lib.hid ((Kept.alloc (fun _ => False) w (.cells #[.int .u64 lo, .slice a n c] 28)).then (Kept.alloc (fun _ => False) _ (.cells #[.int .u64 0, .slice none 0 0] 28)))
  go_enter Tryd.func17, Tryd.ntmps17
  go_wp2_with fail
  refine (HH.out _ KA.out).mono ?_
  rintro e w1 ⟨rfl, hk1⟩
  have fr := Fr.new hk1
  clear hk1
  have FR := Lib.hid fr
  obtain ⟨c0, c1, r0, r1, f0, f1, lt, _⟩ := fr
  go_wp2
  refine bodyPost_ret (v := .agg #[.int .u64 lo, .slice a n c]) (by simp [results, Tryd.results17, go_sem, r0, r1]) rfl ⟨rfl, FR.out.fin _ _⟩

set_option maxRecDepth 100000 in
set_option maxHeartbeats 1600000 in
theorem without_low (w : World) (v : Value) (M i : Nat) (h : SetV w v M) (hi : i < 64) (hb : M.testBit i = true) :
    Calls Tryd.prog 17 #[v, .int .i64 i] w fun e w' => ∃ v', e = .returned v' ∧ SetV w' v' (anN M (2 ^ i)) ∧ (∀ k, setBlk v' k → setBlk v k ∨ w.heap.size ≤ k) ∧ Kept (fun _ => False) w w' := by
  obtain ⟨hv, hs, rfl, hw, hc, hnil⟩ := h.ex
  obtain ⟨a, c, rfl⟩ := hw.form
  have HH := Lib.hid (fun (W : World) (kw : Kept (fun _ => False) w W) => has_any W _ M i ⟨_, _, rfl, hw.kept kw (fun _ _ h => h), hc, hnil⟩ (by omega))
  rw [hb] at HH
  obtain ⟨b, hbb⟩ : ∃ b, b = 2 ^ (i % 64) := ⟨_, rfl⟩
  have HB := Lib.hid (fun (W : World) => bit_any W i b (by omega) hbb)
  have HGOAL := Lib.hid (fun (z : Nat) (hz : z = anN (M % 2 ^ 64) b) (W : World) (kw : Kept (fun _ => False) w W) => (show SetV W (.agg #[.int .u64 z, .slice a hs.length c]) (anN M (2 ^ i)) from ⟨_, hs, by rw [mod_an, pow_low_mod hi, hz, hbb, Nat.mod_eq_of_lt hi], hw.kept kw (fun _ _ h => h), by rw [div_an, pow_low_div hi, anN_zero]; exact hc, hnil⟩))
  have hlo : M % 2 ^ 64 < 2 ^ 64 := Nat.mod_lt _ (by decide)
  have hbl : b < 2 ^ 64 := by rw [hbb]; exact Nat.pow_lt_pow_right (by omega) (Nat.mod_lt _ (by omega))
  clear hw hc hnil h hb hbb
  generalize hs.length = n at HH HGOAL ⊢
  generalize M % 2 ^ 64 = lo at HH HGOAL hlo ⊢
  obtain ⟨z, hz⟩ : ∃ z, z = anN lo b := ⟨_, rfl⟩
  have hxo : bits .andNot .u64 (lo : Int) (b : Int) = (z : Int) := by rw [hz]; exact u64_anN _ _ (by omega) (by omega)
  have HZ := Lib.hid hz
  have hi' : (i : Int) < 64 := by omega
  have hi0 : (i : Int) ≤ 4095 := by omega
  clear hz hlo hbl
  have KA := Lib.hid ((Kept.alloc (fun _ => False) w (.cells #[.int .u64 lo, .slice a n c] 28)).then (Kept.alloc (fun _ => False) _ (.cells #[.int .u64 0, .slice none 0 0] 28)))
  go_enter Tryd.func17, Tryd.ntmps17
  go_wp2_with fail
  refine (HH.out _ KA.out).mono ?_
  rintro e w1 ⟨rfl, hk1⟩
  have fr := Fr.new hk1
  clear hk1
  have FR := Lib.hid fr
  obtain ⟨c0, c1, r0, r1, f0, f1, lt, _⟩ := fr
  go_wp2_with fail
  go_still_tail 8, (by kernel_rfl)
  still_call ((HB.out _).mono (fun _ _ h => ⟨h.1, h.2.symm⟩))
  repeat still_step
  refine wpStill_nil ?_
  change wpList _ _ _ _ _ w1.drew
  have FR2 := Lib.hid FR.out.drew
  clear c0 c1 r0 r1 f0 f1 lt FR
  generalize w1.drew = w2 at FR2 ⊢
  obtain ⟨c0, c1, r0, r1, f0, f1, lt, _⟩ := FR2.out
  go_wp2
  refine bodyPost_ret (v := .agg #[.int .u64 z, .slice a n c]) (by simp [results, Tryd.results17, go_sem, r0, r1]) rfl ⟨_, rfl, HGOAL.out z HZ.out _ (FR2.out.fin _ _), ?_, FR2.out.fin _ _⟩
  rintro k ⟨lo', hv', he, hb⟩
  cases he
  exact Or.inl ⟨_, _, rfl, hb⟩

set_option maxRecDepth 100000 in
set_option maxHeartbeats 3200000 in
theorem without_high (w : World) (v : Value) (M i : Nat) (h : SetV w v M) (hS : Small M) (h64 : 64 ≤ i) (hi : i ≤ 4095) (hb : M.testBit i = true) :
    Calls Tryd.prog 17 #[v, .int .i64 i] w fun e w' => ∃ v', e = .returned v' ∧ SetV w' v' (anN M (2 ^ i)) ∧ (∀ k, setBlk v' k → setBlk v k ∨ w.heap.size ≤ k) ∧ Kept (fun _ => False) w w' := by
  obtain ⟨hv, hs, rfl, hw, hc, hnil⟩ := h.ex
  obtain ⟨a, c, rfl⟩ := hw.form
  have hsm := hc.small hS
  have HH := Lib.hid (fun (W : World) (kw : Kept (fun _ => False) w W) => has_any W _ M i ⟨_, _, rfl, hw.kept kw (fun _ _ h => h), hc, hnil⟩ (by omega))
  rw [hb] at HH
  obtain ⟨b, hbb⟩ : ∃ b, b = 2 ^ (i % 64) := ⟨_, rfl⟩
  have HB := Lib.hid (fun (W : World) => bit_any W i b (by omega) hbb)
  obtain ⟨q, hq⟩ : ∃ q, i / 64 = q + 1 := ⟨i / 64 - 1, by omega⟩
  have hqn : q < hs.length := by
    rcases Nat.lt_or_ge q hs.length with h1 | h1
    · exact h1
    · exfalso
      have h2 : (M / 2 ^ 64).testBit (i - 64) = true := by rw [Nat.testBit_div_two_pow, show i - 64 + 64 = i by omega]; exact hb
      rw [Nat.testBit_lt_two_pow (Nat.lt_of_lt_of_le hc.lt (Nat.pow_le_pow_right (by omega) (by omega)))] at h2
      cases h2
  have hbl : b < 2 ^ 64 := by rw [hbb]; exact Nat.pow_lt_pow_right (by omega) (Nat.mod_lt _ (by omega))
  obtain ⟨n, hn⟩ : ∃ n, n = hs.length := ⟨_, rfl⟩
  obtain ⟨y, hy⟩ : ∃ y, y = (wl (M / 2 ^ 64) n).getD q 0 := ⟨_, rfl⟩
  have hyl : y < 2 ^ 64 := by rw [hy, wl_getD _ _ _ (by omega)]; exact Nat.mod_lt _ (by decide)
  obtain ⟨z, hz⟩ : ∃ z, z = anN y b := ⟨_, rfl⟩
  have hxo : bits .andNot .u64 (y : Int) (b : Int) = (z : Int) := by rw [hz]; exact u64_anN _ _ (by omega) (by omega)
  have hdiv : anN M (2 ^ i) / 2 ^ 64 = anN (M / 2 ^ 64) (2 ^ (i - 64)) := by rw [div_an, pow_high_div h64]
  have hfin : (wl (M / 2 ^ 64) n).set q z = wl (anN M (2 ^ i) / 2 ^ 64) n := by
    have := wl_sub (M / 2 ^ 64) n (i - 64) (by omega)
    rw [show (i - 64) / 64 = q by omega, show (i - 64) % 64 = i % 64 by omega, ← hbb, ← hy, ← hz] at this
    rw [this, hdiv]
  have hmod : M % 2 ^ 64 = anN M (2 ^ i) % 2 ^ 64 := by rw [mod_an, pow_high_mod h64, anN_zero]
  have hlt : anN M (2 ^ i) / 2 ^ 64 < 2 ^ (64 * n) := by rw [hdiv, hn]; exact Nat.lt_of_le_of_lt (anN_le _ _) hc.lt
  have hst : wv hs = wv (wl (M / 2 ^ 64) n) := by rw [hn]; congr 1; exact hc.eq
  have hE : (i : Int).tdiv 64 = (q : Int) + 1 ∧ (i : Int) / 64 = (q : Int) + 1 := ⟨by rw [Int.tdiv_eq_ediv_of_nonneg (by omega)]; omega, by omega⟩
  have HE := Lib.hid hE
  have HW := Lib.hid hw; have HFIN := Lib.hid hfin; have HMOD := Lib.hid hmod; have HLT := Lib.hid hlt; have HST := Lib.hid hst; have HY := Lib.hid hy; have HNN := Lib.hid hn
  have hi1 : decide ((i : Int) < 64) = false := by simp; omega
  have hi2 : (64 : Int) ≤ i := by omega
  have hi0 : (i : Int) ≤ 4095 := by omega
  have hwlt := hw.lt
  obtain ⟨lo, hlo⟩ : ∃ lo, lo = M % 2 ^ 64 := ⟨_, rfl⟩
  rw [← hn] at HH hsm hqn hwlt ⊢
  rw [← hlo] at HH HMOD ⊢
  have HWLT := Lib.hid hwlt
  clear hw hc hnil h hb hbb hS hq hy hyl hz hfin hmod hdiv hlt hst hn hlo hE hbl hwlt h64 hi
  have KA := Lib.hid ((Kept.alloc (fun _ => False) w (.cells #[.int .u64 lo, .slice a n c] 28)).then (Kept.alloc (fun _ => False) _ (.cells #[.int .u64 0, .slice none 0 0] 28)))
  go_enter Tryd.func17, Tryd.ntmps17
  go_wp2_with fail
  refine (HH.out _ KA.out).mono ?_
  rintro e w1 ⟨rfl, hk1⟩
  have fr := Fr.new hk1
  clear hk1
  have FR := Lib.hid fr
  obtain ⟨c0, c1, r0, r1, f0, f1, lt, _⟩ := fr
  go_wp2_with fail
  have hww := HW.out.kept FR.out.kept (fun _ _ h => h)
  have huc := uclone_any _ hs w1 hww (by have := HNN.out; omega)
  rw [← HNN.out] at huc
  refine huc.mono ?_
  rintro e w2 ⟨v', rfl, hown, hk2⟩
  have fr2 := FR.out.keptS hk2 (fun _ _ h => h)
  rw [HST.out] at hown
  obtain ⟨⟨a', c', rfl⟩, hbase⟩ := row_form2 hown
  obtain ⟨gb, rfl⟩ := row_slice2 hown (by omega)
  have hgb : w.heap.size + 1 < gb := by
    have h1 := hbase gb rfl
    have h2 := FR.out.lt
    omega
  have own3 := hown
  have lt3 : gb < w2.heap.size := by
    obtain ⟨_, hh⟩ := hown
    rcases hh with ⟨h, _⟩ | ⟨g', cap', cur, h, _, hg', _⟩
    · cases h
    · cases h; exact (Array.getElem?_eq_some_iff.1 hg').1
  have cq : w2.cell? ⟨gb, q, none⟩ = some (.int .u64 y) := by
    rw [own3.cellAt q (by omega), wv_getD _ _ (by rw [wl_length]; exact hqn), ← HY.out]
  have fq : w2.frozen? ⟨gb, q, none⟩ = false := own3.frozenAt q
  have hst := own3.stored q (.int .u64 (z : Int))
  rw [wv_set, HFIN.out] at hst
  have HST3 := Lib.hid hst.1
  clear hww huc hk2 hbase hown own3 hst c0 c1 r0 r1 f0 f1 lt FR HST HY HW HFIN
  have ne0 : ¬ w.heap.size = gb := by omega
  have ne1 : ¬ w.heap.size + 1 = gb := by omega
  have ne2 : ¬ gb = w.heap.size := by omega
  have ne3 : ¬ gb = w.heap.size + 1 := by omega
  have q0 : (0 : Int) ≤ q := by omega
  have q1 : (q : Int) < (n : Int) := by omega
  have FR2 := Lib.hid fr2
  obtain ⟨c0, c1, r0, r1, f0, f1, lt, _⟩ := fr2
  obtain ⟨hE1, hE2⟩ := HE.out
  obtain ⟨hw1, hw2⟩ : IntKind.i64.wrap (q : Int) = (q : Int) ∧ IntKind.i64.wrap ((q : Int) + 1) = (q : Int) + 1 := ⟨IntWalk.i64_in _ (by omega), IntWalk.i64_in _ (by omega)⟩
  go_wp2_with fail
  go_region_law ((go_simp; go_at_call 41; refine (HB.out _).mono ?_; rintro e w' ⟨rfl, rfl⟩))
  all_goals
    have fr4 := FR2.out.keptS ((Kept.setCell (fun k => k = gb) w2 ⟨gb, q, none⟩ (.int .u64 (z : Int)) rfl).drew) (fun k hk e => by omega)
    have HWD := Lib.hid (words_row HST3.out)
    have hwd4 : Words ((w2.setCell ⟨gb, q, none⟩ (.int .u64 (z : Int))).drew) (.slice (some ⟨gb, 0, none⟩) n c') (wl (anN M (2 ^ i) / 2 ^ 64) n) := HWD.out
    have HWD4 := Lib.hid hwd4
    clear c0 c1 r0 r1 f0 f1 lt cq fq FR2 HST3 HWD hwd4 hw1 hw2
    generalize (w2.setCell ⟨gb, q, none⟩ (.int .u64 (z : Int))).drew = w4 at fr4 HWD4 ⊢
    have FR4 := Lib.hid fr4
    obtain ⟨c0, c1, r0, r1, f0, f1, lt, _⟩ := fr4
    go_wp2_with fail
    go_region_held3 (fun w' => w'.cell? ⟨w.heap.size, 0, none⟩ = some (.int .u64 (lo : Int)))
      (first | go_keep)
      ((go_at_call 44; refine (trim_any _ _ _ (show Words w4.drew _ _ from HWD4.out)).mono ?_; rintro e w1 ⟨hv, rfl, ht, rfl⟩; obtain ⟨a, mt, c, rfl⟩ := ht.form; have HT := Lib.hid ht; clear ht))
    go_wp2
    have KS : Kept (fun k => k = w.heap.size + 1) w4.drew ((w4.setCell ⟨w.heap.size + 1, 0, none⟩ (.int .u64 (lo : Int))).setCell ⟨w.heap.size + 1, 1, none⟩ (.slice a mt c)).drew :=
      ((Kept.setCell (fun k => k = w.heap.size + 1) _ ⟨w.heap.size + 1, 0, none⟩ _ rfl).trans (Kept.setCell (fun k => k = w.heap.size + 1) _ ⟨w.heap.size + 1, 1, none⟩ _ rfl) (fun _ _ h => h) (fun _ _ h => h)).drews
    obtain ⟨t1, t2⟩ := trim_set1 HT.out rfl HLT.out HMOD.out KS (fun k hk e => by simp [Value.ownBlock] at hk; omega)
    refine bodyPost_ret (v := .agg #[.int .u64 lo, .slice a mt c]) (by simp [results, Tryd.results17, go_sem, r0, r1]) rfl ⟨_, rfl, t1, ?_, (FR4.out.fin _ _).drew⟩
    rintro k ⟨lo', hv', he, hb⟩
    cases he
    have := t2 k hb
    simp [Value.ownBlock] at this
    exact Or.inr (by omega)

/-- Without, of any number. -/
theorem without_any (w : World) (v : Value) (M : Nat) (i : Int) (h : SetV w v M) (hS : Small M) :
    Calls Tryd.prog 17 #[v, .int .i64 i] w fun e w' => ∃ v', e = .returned v' ∧ SetV w' v' (subM M i) ∧ (∀ k, setBlk v' k → setBlk v k ∨ w.heap.size ≤ k) ∧ Kept (fun _ => False) w w' := by
  cases hb : (decide (0 ≤ i ∧ i ≤ 4095) && M.testBit i.toNat) with
  | false =>
    have e : subM M i = M := by
      unfold subM
      split
      · rename_i hi
        refine an_no _ _ ?_
        simpa [hi] using hb
      · rfl
    rw [e]
    refine (without_same w v M i h hb).mono ?_
    rintro e w' ⟨rfl, hk⟩
    exact ⟨v, rfl, h.onC hk, fun k hk => Or.inl hk, hk⟩
  | true =>
    have hi : 0 ≤ i ∧ i ≤ 4095 := by
      by_cases hi : 0 ≤ i ∧ i ≤ 4095
      · exact hi
      · simp [hi] at hb
    rw [subM, if_pos hi]
    obtain ⟨n, rfl⟩ := Int.eq_ofNat_of_zero_le hi.1
    have hb' : M.testBit n = true := by simpa [hi] using hb
    by_cases h64 : n < 64
    · exact without_low w v M n h h64 hb'
    · exact without_high w v M n h hS (by omega) (by omega) hb'
end Go.Proofs.YteaagllpkcpedaaDoor
