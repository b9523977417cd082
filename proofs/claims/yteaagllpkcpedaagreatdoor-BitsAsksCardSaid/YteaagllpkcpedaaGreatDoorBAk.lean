/-
  arbaclaw01.BitsAsks: the walk. Made by mk_bak.py.
-/
import Derived.Test.YteaagllpkcpedaaGreatDoorBAw
import Derived.Test.YteaagllpkcpedaaGreatDoorBBx
import Derived.Test.YteaagllpkcpedaaGreatDoorBRa
import Derived.Test.YteaagllpkcpedaaGreatDoorBWi
import Derived.Test.YteaagllpkcpedaaGreatDoorBMe
namespace Go.Proofs.YteaagllpkcpedaaGreatDoor
open Go.RowKit
set_option linter.unusedSimpArgs false
set_option linter.unusedVariables false

theorem small_len {M : Nat} (_h : Small M) : (memM M 4096).length ≤ 4096 := memM_le _ _
theorem len_zero {M : Nat} (hS : Small M) : (((memM M 4096).length : Int) == 0) = decide (M = 0) := by
  have h := memM_nil hS
  by_cases h0 : M = 0
  · rw [h.2 h0, decide_eq_true h0]; rfl
  · have h1 : (memM M 4096).length ≠ 0 := fun e => h0 (h.1 e)
    rw [decide_eq_false h0]
    generalize (memM M 4096).length = n at h1
    simpa using h1
theorem len_some {M : Nat} (hS : Small M) : decide ((0 : Int) < ((memM M 4096).length : Int)) = decide (M ≠ 0) := by
  have h := memM_nil hS
  by_cases h0 : M = 0
  · rw [h.2 h0, h0]; rfl
  · have h1 : (memM M 4096).length ≠ 0 := fun e => h0 (h.1 e)
    rw [decide_eq_true h0, decide_eq_true]
    omega
theorem len_pos {M : Nat} (h0 : M ≠ 0) (hS : Small M) : 0 < (memM M 4096).length := by
  rcases Nat.eq_zero_or_pos (memM M 4096).length with h | h
  · exact absurd ((memM_nil hS).1 h) h0
  · exact h

theorem set_empty {W : World} {lo n c : Nat} {a : Option Addr} (h : SetV W (.agg #[.int .u64 (lo : Int), .slice a n c]) 0) : lo = 0 ∧ n = 0 := by
  obtain ⟨hv, hs, he, hw, hc, hn⟩ := h.ex
  have h1 : hs = [] := by
    have := hc.last
    rcases this with h | h
    · exact List.length_eq_zero_iff.1 h
    · simp at h
  have h2 := hn h1
  subst h2
  have he2 := Value.agg.inj he
  simp at he2
  exact ⟨he2.1, he2.2.2.1⟩
theorem set_some {W : World} {lo n c M : Nat} {a : Option Addr} (h : SetV W (.agg #[.int .u64 (lo : Int), .slice a n c]) M) (h0 : M ≠ 0) : ¬ (lo = 0 ∧ n = 0) := by
  rintro ⟨rfl, rfl⟩
  obtain ⟨hv, hs, he, hw, hc, hn⟩ := h.ex
  obtain ⟨a2, c2, rfl⟩ := hw.form
  have he2 := Value.agg.inj he
  simp at he2
  have hl : hs.length = 0 := by have := he2.2.2.1; omega
  have h3 := hc.lt
  rw [hl] at h3
  have h4 : M % 2 ^ 64 = 0 := by have := he2.1; omega
  have := Nat.div_add_mod M (2 ^ 64)
  omega

set_option maxRecDepth 100000 in
set_option maxHeartbeats 6400000 in
theorem asks_law (w : World) (va vb : Value) (xs ys : List Int) (ha : Ints w va xs) (hb : Ints w vb ys) (hL : Libs w) :
    Calls Tryz.prog 4 #[va, vb] w fun e w' => e = .returned (.bool true) ∧ Kept (fun _ => False) w w' := by
  have HL := Lib.hid hL; have HA := Lib.hid ha; have HB := Lib.hid hb
  clear hL ha hb
  go_enter Tryz.func4, Tryz.ntmps4
  go_wp2_with fail
  refine (aw_any w HL.out).mono ?_
  rintro e wa ⟨rfl, k1⟩
  have KK := Lib.hid k1
  clear k1
  go_wp2_with fail
  refine (few_any _ _ xs (HA.out.kept KK.out (fun _ _ h => h))).mono ?_
  rintro e wfa ⟨ua, rfl, hi, rfl⟩
  have HI := Lib.hid hi
  clear hi
  go_wp2_with fail
  refine (of_any _ _ _ HI.out).mono ?_
  rintro e woa ⟨sa, rfl, hs, -, k1⟩
  replace KK := Lib.hid (KK.out.then k1)
  obtain ⟨A, hM⟩ : ∃ M, M = maskOf (xs.take 60) := ⟨_, rfl⟩
  rw [← hM] at hs
  have SA : Hid (Small A) := hM ▸ maskOf_small _
  have HMA := Lib.hid hM
  have Ha := Lib.hid hs
  obtain ⟨la, pa, na, ca, rfl⟩ := hs.form
  clear hs k1 HI hM
  go_wp2_with fail
  refine (few_any _ _ ys (HB.out.kept KK.out (fun _ _ h => h))).mono ?_
  rintro e wfb ⟨ub, rfl, hi, rfl⟩
  have HI := Lib.hid hi
  clear hi
  go_wp2_with fail
  refine (of_any _ _ _ HI.out).mono ?_
  rintro e wob ⟨sb, rfl, hs, -, k1⟩
  replace Ha := Lib.hid (Ha.out.onC k1)
  replace KK := Lib.hid (KK.out.then k1)
  obtain ⟨B, hM⟩ : ∃ M, M = maskOf (ys.take 60) := ⟨_, rfl⟩
  rw [← hM] at hs
  have SB : Hid (Small B) := hM ▸ maskOf_small _
  have HMB := Lib.hid hM
  have Hb := Lib.hid hs
  obtain ⟨lb, pb, nb, cb, rfl⟩ := hs.form
  clear hs k1 HI hM
  go_wp2_with fail
  refine (few_any _ _ xs (HA.out.kept KK.out (fun _ _ h => h))).mono ?_
  rintro e wg ⟨u2, rfl, hi, rfl⟩
  have Hi2 := Lib.hid hi
  clear hi
  go_wp2_with fail
  refine (rof_any _ _ _ Hi2.out (by simp; omega)).mono ?_
  rintro e wi3 ⟨ui3, rfl, ho3, k3⟩
  rw [ofL_mask, ← HMA.out] at ho3
  have Hi3 := Lib.hid ho3.ints
  clear Hi2 ho3
  replace Ha := Lib.hid (Ha.out.onC k3)
  replace Hb := Lib.hid (Hb.out.onC k3)
  replace KK := Lib.hid (KK.out.then k3)
  clear k3
  go_wp2_with fail
  refine (few_any _ _ ys (HB.out.kept KK.out (fun _ _ h => h))).mono ?_
  rintro e wg ⟨u2, rfl, hi, rfl⟩
  have Hi2 := Lib.hid hi
  clear hi
  go_wp2_with fail
  refine (rof_any _ _ _ Hi2.out (by simp; omega)).mono ?_
  rintro e wi4 ⟨ui4, rfl, ho3, k3⟩
  rw [ofL_mask, ← HMB.out] at ho3
  have Hi4 := Lib.hid ho3.ints
  clear Hi2 ho3
  replace Ha := Lib.hid (Ha.out.onC k3)
  replace Hb := Lib.hid (Hb.out.onC k3)
  replace Hi3 := Lib.hid (Hi3.out.kept k3 (fun _ _ h => h))
  replace KK := Lib.hid (KK.out.then k3)
  clear k3
  clear HA HB HMA HMB
  obtain ⟨qa, ea, rfl⟩ := Hi3.out.form
  obtain ⟨qb, eb, rfl⟩ := Hi4.out.form
  go_wp2_with fail
  obtain ⟨ba, bb, k0⟩ := box2 wi4 la lb pa pb na ca nb cb
  have Ba := Lib.hid ba; have Bb := Lib.hid bb
  replace Ha := Lib.hid (Ha.out.onC k0)
  replace Hb := Lib.hid (Hb.out.onC k0)
  replace Hi3 := Lib.hid (Hi3.out.kept k0 (fun _ _ h => h))
  replace Hi4 := Lib.hid (Hi4.out.kept k0 (fun _ _ h => h))
  replace KK := Lib.hid (KK.out.then k0)
  clear k0
  clear ba bb
  have HI3A := Lib.hid Hi3.out.at
  generalize (wi4.alloc (.cells #[.int .u64 la, .slice pa na ca] 28)).alloc (.cells #[.int .u64 lb, .slice pb nb cb] 28) = wz at *
  have KZ := Lib.hid (Kept.refl (fun _ => False) wz)
  have hLA : (memM A 4096).length ≤ 4096 := memM_le _ _
  have hLB : (memM B 4096).length ≤ 4096 := memM_le _ _
  have HLA := Lib.hid hLA; have HLB := Lib.hid hLB
  clear hLA hLB
  by_cases h0 : A = 0
  · have H0 := Lib.hid h0
    have HL0 : Hid ((memM A 4096).length = 0) := by show _ = _; rw [h0, memM_zero]; rfl
    have HLO : Hid (la = 0 ∧ na = 0) := set_empty (h0 ▸ Ha.out)
    clear h0
    obtain ⟨a0, a1⟩ := Ba.out
    obtain ⟨b0, b1⟩ := Bb.out
    go_wp2_with fail
    with_reducible refine (least_any _ _ A Ha.out SA.out (HL.out.kept KK.out).tz).mono ?_
    rintro e w3 ⟨hh, k3⟩
    obtain rfl : e = .returned (.tuple #[.int .i64 0, .bool false]) := by
      rcases hh with ⟨_, h⟩ | ⟨d, h, _⟩
      · exact h
      · exact absurd H0.out h.ne
    clear hh
    clear a0 a1 b0 b1
    replace KZ := Lib.hid (KZ.out.then k3)
    replace Ha := Lib.hid (Ha.out.onC k3)
    replace Hb := Lib.hid (Hb.out.onC k3)
    replace Hi3 := Lib.hid (Hi3.out.kept k3 (fun _ _ h => h))
    replace Hi4 := Lib.hid (Hi4.out.kept k3 (fun _ _ h => h))
    replace Ba := Lib.hid (Ba.out.onC k3)
    replace Bb := Lib.hid (Bb.out.onC k3)
    replace KK := Lib.hid (KK.out.then k3)
    clear k3
    obtain ⟨a0, a1⟩ := Ba.out
    obtain ⟨b0, b1⟩ := Bb.out
    go_wp2_with fail
    with_reducible refine (great_at _ _ A Ha.out SA.out false 0 (Or.inl ⟨H0.out, rfl, rfl⟩)).mono ?_
    rintro e w4 ⟨rfl, k4⟩
    clear a0 a1 b0 b1
    replace KZ := Lib.hid (KZ.out.then k4)
    replace Ha := Lib.hid (Ha.out.onC k4)
    replace Hb := Lib.hid (Hb.out.onC k4)
    replace Hi3 := Lib.hid (Hi3.out.kept k4 (fun _ _ h => h))
    replace Hi4 := Lib.hid (Hi4.out.kept k4 (fun _ _ h => h))
    replace Ba := Lib.hid (Ba.out.onC k4)
    replace Bb := Lib.hid (Bb.out.onC k4)
    replace KK := Lib.hid (KK.out.then k4)
    clear k4
    simp only [HL0.out] at Hi3 ⊢
    obtain ⟨a0, a1⟩ := Ba.out
    obtain ⟨b0, b1⟩ := Bb.out
    go_wp2_with fail
    with_reducible refine (empty_any _ la na ca pa).mono ?_
    rintro e w5 ⟨rfl, k5⟩
    rw [show decide (la = 0 ∧ na = 0) = true from decide_eq_true HLO.out]
    clear a0 a1 b0 b1
    replace KZ := Lib.hid (KZ.out.then k5)
    replace Ha := Lib.hid (Ha.out.onC k5)
    replace Hb := Lib.hid (Hb.out.onC k5)
    replace Hi3 := Lib.hid (Hi3.out.kept k5 (fun _ _ h => h))
    replace Hi4 := Lib.hid (Hi4.out.kept k5 (fun _ _ h => h))
    replace Ba := Lib.hid (Ba.out.onC k5)
    replace Bb := Lib.hid (Bb.out.onC k5)
    replace KK := Lib.hid (KK.out.then k5)
    clear k5
    obtain ⟨a0, a1⟩ := Ba.out
    obtain ⟨b0, b1⟩ := Bb.out
    go_wp2_with fail
    refine (len_set _ _ A Ha.out SA.out).mono ?_
    rintro e w6 ⟨rfl, k6⟩
    rw [HL0.out]
    clear a0 a1 b0 b1
    replace KZ := Lib.hid (KZ.out.then k6)
    replace Ha := Lib.hid (Ha.out.onC k6)
    replace Hb := Lib.hid (Hb.out.onC k6)
    replace Hi3 := Lib.hid (Hi3.out.kept k6 (fun _ _ h => h))
    replace Hi4 := Lib.hid (Hi4.out.kept k6 (fun _ _ h => h))
    replace Ba := Lib.hid (Ba.out.onC k6)
    replace Bb := Lib.hid (Bb.out.onC k6)
    replace KK := Lib.hid (KK.out.then k6)
    clear k6
    obtain ⟨a0, a1⟩ := Ba.out
    obtain ⟨b0, b1⟩ := Bb.out
    go_wp2_with fail
    refine (equal_any _ _ _ A B Ha.out Hb.out).mono ?_
    rintro e w7 ⟨rfl, k7⟩
    clear a0 a1 b0 b1
    replace KZ := Lib.hid (KZ.out.then k7)
    replace Ha := Lib.hid (Ha.out.onC k7)
    replace Hb := Lib.hid (Hb.out.onC k7)
    replace Hi3 := Lib.hid (Hi3.out.kept k7 (fun _ _ h => h))
    replace Hi4 := Lib.hid (Hi4.out.kept k7 (fun _ _ h => h))
    replace Ba := Lib.hid (Ba.out.onC k7)
    replace Bb := Lib.hid (Bb.out.onC k7)
    replace KK := Lib.hid (KK.out.then k7)
    clear k7
    obtain ⟨a0, a1⟩ := Ba.out
    obtain ⟨b0, b1⟩ := Bb.out
    go_wp2_with fail
    refine (rsame_any _ _ _ _ _ Hi3.out Hi4.out).mono ?_
    rintro e w8 ⟨rfl, k8⟩
    rw [show decide (memM A 4096 = memM B 4096) = decide (A = B) from decide_eq_decide.2 ⟨memM_inj SA.out SB.out, fun h => by rw [h]⟩]
    clear a0 a1 b0 b1
    replace KZ := Lib.hid (KZ.out.then k8)
    replace Ha := Lib.hid (Ha.out.onC k8)
    replace Hb := Lib.hid (Hb.out.onC k8)
    replace Hi3 := Lib.hid (Hi3.out.kept k8 (fun _ _ h => h))
    replace Hi4 := Lib.hid (Hi4.out.kept k8 (fun _ _ h => h))
    replace Ba := Lib.hid (Ba.out.onC k8)
    replace Bb := Lib.hid (Bb.out.onC k8)
    replace KK := Lib.hid (KK.out.then k8)
    clear k8
    generalize decide (A = B) = q1
    obtain ⟨a0, a1⟩ := Ba.out
    obtain ⟨b0, b1⟩ := Bb.out
    go_wp2_with fail
    refine (within_any _ _ _ A B Ha.out Hb.out SA.out SB.out).mono ?_
    rintro e w9 ⟨rfl, k9⟩
    obtain ⟨q2, hq2⟩ : ∃ q, q = decide (anN A B = 0) := ⟨_, rfl⟩
    rw [← hq2]
    have HQ2 := Lib.hid hq2
    clear hq2
    clear a0 a1 b0 b1
    replace KZ := Lib.hid (KZ.out.then k9)
    replace Ha := Lib.hid (Ha.out.onC k9)
    replace Hb := Lib.hid (Hb.out.onC k9)
    replace Hi3 := Lib.hid (Hi3.out.kept k9 (fun _ _ h => h))
    replace Hi4 := Lib.hid (Hi4.out.kept k9 (fun _ _ h => h))
    replace Ba := Lib.hid (Ba.out.onC k9)
    replace Bb := Lib.hid (Bb.out.onC k9)
    replace KK := Lib.hid (KK.out.then k9)
    clear k9
    obtain ⟨a0, a1⟩ := Ba.out
    obtain ⟨b0, b1⟩ := Bb.out
    go_wp2_with fail
    refine (rminus_any _ _ _ _ _ Hi3.out Hi4.out (by have := HLA.out; omega)).mono ?_
    rintro e w10 ⟨u10, rfl, ho, k10⟩
    rw [filter_not] at ho
    clear a0 a1 b0 b1
    replace KZ := Lib.hid (KZ.out.then k10)
    replace Ha := Lib.hid (Ha.out.onC k10)
    replace Hb := Lib.hid (Hb.out.onC k10)
    replace Hi3 := Lib.hid (Hi3.out.kept k10 (fun _ _ h => h))
    replace Hi4 := Lib.hid (Hi4.out.kept k10 (fun _ _ h => h))
    replace Ba := Lib.hid (Ba.out.onC k10)
    replace Bb := Lib.hid (Bb.out.onC k10)
    replace KK := Lib.hid (KK.out.then k10)
    clear k10
    obtain ⟨q5, e5, rfl⟩ := ho.ints.form
    clear ho
    have hz : (((memM (anN A B) 4096).length : Int) == 0) = q2 := by rw [HQ2.out]; exact len_zero (small_an SA.out)
    clear HQ2
    generalize (memM (anN A B) 4096).length = q6 at hz ⊢
    obtain ⟨a0, a1⟩ := Ba.out
    obtain ⟨b0, b1⟩ := Bb.out
    go_wp2_with fail
    refine (meets_any _ _ _ A B Ha.out Hb.out SA.out SB.out).mono ?_
    rintro e w11 ⟨rfl, k11⟩
    obtain ⟨q3, hq3⟩ : ∃ q, q = decide (A &&& B ≠ 0) := ⟨_, rfl⟩
    rw [← hq3]
    have HQ3 := Lib.hid hq3
    clear hq3
    clear a0 a1 b0 b1
    replace KZ := Lib.hid (KZ.out.then k11)
    replace Ha := Lib.hid (Ha.out.onC k11)
    replace Hb := Lib.hid (Hb.out.onC k11)
    replace Hi3 := Lib.hid (Hi3.out.kept k11 (fun _ _ h => h))
    replace Hi4 := Lib.hid (Hi4.out.kept k11 (fun _ _ h => h))
    replace Ba := Lib.hid (Ba.out.onC k11)
    replace Bb := Lib.hid (Bb.out.onC k11)
    replace KK := Lib.hid (KK.out.then k11)
    clear k11
    obtain ⟨a0, a1⟩ := Ba.out
    obtain ⟨b0, b1⟩ := Bb.out
    go_wp2_with fail
    refine (rand_any _ _ _ _ _ Hi3.out Hi4.out (by have := HLA.out; omega)).mono ?_
    rintro e w12 ⟨u12, rfl, ho, k12⟩
    rw [filter_and] at ho
    clear a0 a1 b0 b1
    replace KZ := Lib.hid (KZ.out.then k12)
    replace Ha := Lib.hid (Ha.out.onC k12)
    replace Hb := Lib.hid (Hb.out.onC k12)
    replace Hi3 := Lib.hid (Hi3.out.kept k12 (fun _ _ h => h))
    replace Hi4 := Lib.hid (Hi4.out.kept k12 (fun _ _ h => h))
    replace Ba := Lib.hid (Ba.out.onC k12)
    replace Bb := Lib.hid (Bb.out.onC k12)
    replace KK := Lib.hid (KK.out.then k12)
    clear k12
    obtain ⟨q7, e7, rfl⟩ := ho.ints.form
    clear ho
    have hz3 : decide ((0 : Int) < ((memM (A &&& B) 4096).length : Int)) = q3 := by rw [HQ3.out]; exact len_some (small_and SA.out)
    clear HQ3
    generalize (memM (A &&& B) 4096).length = q8 at hz3 ⊢
    obtain ⟨a0, a1⟩ := Ba.out
    obtain ⟨b0, b1⟩ := Bb.out
    go_wp2_with fail
    go_ret
    exact ⟨by simp; rw [← hz3]; simp, KK.out⟩
  · have hps : 0 < (memM A 4096).length := len_pos h0 SA.out
    have hlast := memM_last h0 SA.out
    have hLo : ¬ (la = 0 ∧ na = 0) := set_some Ha.out h0
    obtain ⟨N, hN⟩ : ∃ N, (memM A 4096).length = N + 1 := ⟨(memM A 4096).length - 1, by omega⟩
    have HN := Lib.hid hN; have HP := Lib.hid hps; have HLAST := Lib.hid hlast; have HLO := Lib.hid hLo
    clear hN hps hlast hLo
    obtain ⟨a0, a1⟩ := Ba.out
    obtain ⟨b0, b1⟩ := Bb.out
    go_wp2_with fail
    with_reducible refine (least_any _ _ A Ha.out SA.out (HL.out.kept KK.out).tz).mono ?_
    rintro e w3 ⟨hh, k3⟩
    obtain ⟨d, hd, rfl⟩ : ∃ d, LeastS A d ∧ e = .returned (.tuple #[.int .i64 (d : Nat), .bool true]) := by
      rcases hh with ⟨h, _⟩ | h
      · exact absurd h h0
      · exact h
    have HFST := Lib.hid (memM_first hd SA.out)
    clear hh hd
    clear a0 a1 b0 b1
    replace KZ := Lib.hid (KZ.out.then k3)
    replace Ha := Lib.hid (Ha.out.onC k3)
    replace Hb := Lib.hid (Hb.out.onC k3)
    replace Hi3 := Lib.hid (Hi3.out.kept k3 (fun _ _ h => h))
    replace Hi4 := Lib.hid (Hi4.out.kept k3 (fun _ _ h => h))
    replace Ba := Lib.hid (Ba.out.onC k3)
    replace Bb := Lib.hid (Bb.out.onC k3)
    replace KK := Lib.hid (KK.out.then k3)
    clear k3
    obtain ⟨a0, a1⟩ := Ba.out
    obtain ⟨b0, b1⟩ := Bb.out
    go_wp2_with fail
    with_reducible refine (great_at _ _ A Ha.out SA.out true _ (Or.inr ⟨h0, rfl, rfl⟩)).mono ?_
    rintro e w4 ⟨rfl, k4⟩
    clear a0 a1 b0 b1
    replace KZ := Lib.hid (KZ.out.then k4)
    replace Ha := Lib.hid (Ha.out.onC k4)
    replace Hb := Lib.hid (Hb.out.onC k4)
    replace Hi3 := Lib.hid (Hi3.out.kept k4 (fun _ _ h => h))
    replace Hi4 := Lib.hid (Hi4.out.kept k4 (fun _ _ h => h))
    replace Ba := Lib.hid (Ba.out.onC k4)
    replace Bb := Lib.hid (Bb.out.onC k4)
    replace KK := Lib.hid (KK.out.then k4)
    clear k4
    obtain ⟨G, hG⟩ : ∃ G, G = Nat.log2 A := ⟨_, rfl⟩
    rw [← hG]
    obtain ⟨g, off, rfl, hcell⟩ := HI3A.out 0 HP.out
    obtain ⟨_, _, hgo, hcell2⟩ := HI3A.out ((memM A 4096).length - 1) (by have := HP.out; omega)
    cases hgo
    rw [HFST.out.2] at hcell
    rw [HLAST.out, ← hG] at hcell2
    rw [HN.out] at hcell2
    simp only [HN.out] at Hi3 ⊢
    have HCE : Hid (∀ W, Kept (fun _ => False) wz W → W.cell? ⟨g, off, none⟩ = some (.int .i64 (d : Int)) ∧ W.cell? ⟨g, off + N, none⟩ = some (.int .i64 (G : Int))) := fun W hk => ⟨by simpa using hcell W hk, by simpa using hcell2 W hk⟩
    clear hcell hcell2 hG
    have hN1 : N ≤ 4096 := by have := HN.out; have := HLA.out; omega
    have hNw : IntKind.i64.wrap (((N + 1 : Nat) : Int) - 1) = (N : Int) ∧ ((N : Int) + 1 - 1) = (N : Int) := ⟨by rw [show ((N + 1 : Nat) : Int) - 1 = (N : Int) by omega]; exact IntWalk.i64_in _ (by omega), by omega⟩
    obtain ⟨hNw1, hNw2⟩ := hNw
    have hN2 : (0 : Int) < ((N + 1 : Nat) : Int) ∧ (0 : Int) < (N : Int) + 1 ∧ (0 : Int) ≤ (N : Int) ∧ (N : Int) < (N : Int) + 1 := ⟨by omega, by omega, by omega, by omega⟩
    obtain ⟨hN3, hN4, hN5, hN6⟩ := hN2
    obtain ⟨cc0, cc1⟩ := HCE.out _ KZ.out
    obtain ⟨a0, a1⟩ := Ba.out
    obtain ⟨b0, b1⟩ := Bb.out
    go_wp2_with fail
    with_reducible refine (empty_any _ la na ca pa).mono ?_
    rintro e w5 ⟨rfl, k5⟩
    rw [show decide (la = 0 ∧ na = 0) = false from decide_eq_false HLO.out]
    clear cc0 cc1
    clear a0 a1 b0 b1
    replace KZ := Lib.hid (KZ.out.then k5)
    replace Ha := Lib.hid (Ha.out.onC k5)
    replace Hb := Lib.hid (Hb.out.onC k5)
    replace Hi3 := Lib.hid (Hi3.out.kept k5 (fun _ _ h => h))
    replace Hi4 := Lib.hid (Hi4.out.kept k5 (fun _ _ h => h))
    replace Ba := Lib.hid (Ba.out.onC k5)
    replace Bb := Lib.hid (Bb.out.onC k5)
    replace KK := Lib.hid (KK.out.then k5)
    clear k5
    obtain ⟨cc0, cc1⟩ := HCE.out _ KZ.out
    obtain ⟨a0, a1⟩ := Ba.out
    obtain ⟨b0, b1⟩ := Bb.out
    go_wp2_with fail
    clear cc0 cc1 hNw1 hNw2 hN3 hN4 hN5 hN6 hN1
    refine (len_set _ _ A Ha.out SA.out).mono ?_
    rintro e w6 ⟨rfl, k6⟩
    rw [HN.out]
    clear a0 a1 b0 b1
    replace KZ := Lib.hid (KZ.out.then k6)
    replace Ha := Lib.hid (Ha.out.onC k6)
    replace Hb := Lib.hid (Hb.out.onC k6)
    replace Hi3 := Lib.hid (Hi3.out.kept k6 (fun _ _ h => h))
    replace Hi4 := Lib.hid (Hi4.out.kept k6 (fun _ _ h => h))
    replace Ba := Lib.hid (Ba.out.onC k6)
    replace Bb := Lib.hid (Bb.out.onC k6)
    replace KK := Lib.hid (KK.out.then k6)
    clear k6
    obtain ⟨a0, a1⟩ := Ba.out
    obtain ⟨b0, b1⟩ := Bb.out
    go_wp2_with fail
    refine (equal_any _ _ _ A B Ha.out Hb.out).mono ?_
    rintro e w7 ⟨rfl, k7⟩
    clear a0 a1 b0 b1
    replace KZ := Lib.hid (KZ.out.then k7)
    replace Ha := Lib.hid (Ha.out.onC k7)
    replace Hb := Lib.hid (Hb.out.onC k7)
    replace Hi3 := Lib.hid (Hi3.out.kept k7 (fun _ _ h => h))
    replace Hi4 := Lib.hid (Hi4.out.kept k7 (fun _ _ h => h))
    replace Ba := Lib.hid (Ba.out.onC k7)
    replace Bb := Lib.hid (Bb.out.onC k7)
    replace KK := Lib.hid (KK.out.then k7)
    clear k7
    obtain ⟨a0, a1⟩ := Ba.out
    obtain ⟨b0, b1⟩ := Bb.out
    go_wp2_with fail
    refine (rsame_any _ _ _ _ _ Hi3.out Hi4.out).mono ?_
    rintro e w8 ⟨rfl, k8⟩
    rw [show decide (memM A 4096 = memM B 4096) = decide (A = B) from decide_eq_decide.2 ⟨memM_inj SA.out SB.out, fun h => by rw [h]⟩]
    clear a0 a1 b0 b1
    replace KZ := Lib.hid (KZ.out.then k8)
    replace Ha := Lib.hid (Ha.out.onC k8)
    replace Hb := Lib.hid (Hb.out.onC k8)
    replace Hi3 := Lib.hid (Hi3.out.kept k8 (fun _ _ h => h))
    replace Hi4 := Lib.hid (Hi4.out.kept k8 (fun _ _ h => h))
    replace Ba := Lib.hid (Ba.out.onC k8)
    replace Bb := Lib.hid (Bb.out.onC k8)
    replace KK := Lib.hid (KK.out.then k8)
    clear k8
    generalize decide (A = B) = q1
    obtain ⟨a0, a1⟩ := Ba.out
    obtain ⟨b0, b1⟩ := Bb.out
    go_wp2_with fail
    refine (within_any _ _ _ A B Ha.out Hb.out SA.out SB.out).mono ?_
    rintro e w9 ⟨rfl, k9⟩
    obtain ⟨q2, hq2⟩ : ∃ q, q = decide (anN A B = 0) := ⟨_, rfl⟩
    rw [← hq2]
    have HQ2 := Lib.hid hq2
    clear hq2
    clear a0 a1 b0 b1
    replace KZ := Lib.hid (KZ.out.then k9)
    replace Ha := Lib.hid (Ha.out.onC k9)
    replace Hb := Lib.hid (Hb.out.onC k9)
    replace Hi3 := Lib.hid (Hi3.out.kept k9 (fun _ _ h => h))
    replace Hi4 := Lib.hid (Hi4.out.kept k9 (fun _ _ h => h))
    replace Ba := Lib.hid (Ba.out.onC k9)
    replace Bb := Lib.hid (Bb.out.onC k9)
    replace KK := Lib.hid (KK.out.then k9)
    clear k9
    obtain ⟨a0, a1⟩ := Ba.out
    obtain ⟨b0, b1⟩ := Bb.out
    go_wp2_with fail
    refine (rminus_any _ _ _ _ _ Hi3.out Hi4.out (by have := HLA.out; omega)).mono ?_
    rintro e w10 ⟨u10, rfl, ho, k10⟩
    rw [filter_not] at ho
    clear a0 a1 b0 b1
    replace KZ := Lib.hid (KZ.out.then k10)
    replace Ha := Lib.hid (Ha.out.onC k10)
    replace Hb := Lib.hid (Hb.out.onC k10)
    replace Hi3 := Lib.hid (Hi3.out.kept k10 (fun _ _ h => h))
    replace Hi4 := Lib.hid (Hi4.out.kept k10 (fun _ _ h => h))
    replace Ba := Lib.hid (Ba.out.onC k10)
    replace Bb := Lib.hid (Bb.out.onC k10)
    replace KK := Lib.hid (KK.out.then k10)
    clear k10
    obtain ⟨q5, e5, rfl⟩ := ho.ints.form
    clear ho
    have hz : (((memM (anN A B) 4096).length : Int) == 0) = q2 := by rw [HQ2.out]; exact len_zero (small_an SA.out)
    clear HQ2
    generalize (memM (anN A B) 4096).length = q6 at hz ⊢
    obtain ⟨a0, a1⟩ := Ba.out
    obtain ⟨b0, b1⟩ := Bb.out
    go_wp2_with fail
    refine (meets_any _ _ _ A B Ha.out Hb.out SA.out SB.out).mono ?_
    rintro e w11 ⟨rfl, k11⟩
    obtain ⟨q3, hq3⟩ : ∃ q, q = decide (A &&& B ≠ 0) := ⟨_, rfl⟩
    rw [← hq3]
    have HQ3 := Lib.hid hq3
    clear hq3
    clear a0 a1 b0 b1
    replace KZ := Lib.hid (KZ.out.then k11)
    replace Ha := Lib.hid (Ha.out.onC k11)
    replace Hb := Lib.hid (Hb.out.onC k11)
    replace Hi3 := Lib.hid (Hi3.out.kept k11 (fun _ _ h => h))
    replace Hi4 := Lib.hid (Hi4.out.kept k11 (fun _ _ h => h))
    replace Ba := Lib.hid (Ba.out.onC k11)
    replace Bb := Lib.hid (Bb.out.onC k11)
    replace KK := Lib.hid (KK.out.then k11)
    clear k11
    obtain ⟨a0, a1⟩ := Ba.out
    obtain ⟨b0, b1⟩ := Bb.out
    go_wp2_with fail
    refine (rand_any _ _ _ _ _ Hi3.out Hi4.out (by have := HLA.out; omega)).mono ?_
    rintro e w12 ⟨u12, rfl, ho, k12⟩
    rw [filter_and] at ho
    clear a0 a1 b0 b1
    replace KZ := Lib.hid (KZ.out.then k12)
    replace Ha := Lib.hid (Ha.out.onC k12)
    replace Hb := Lib.hid (Hb.out.onC k12)
    replace Hi3 := Lib.hid (Hi3.out.kept k12 (fun _ _ h => h))
    replace Hi4 := Lib.hid (Hi4.out.kept k12 (fun _ _ h => h))
    replace Ba := Lib.hid (Ba.out.onC k12)
    replace Bb := Lib.hid (Bb.out.onC k12)
    replace KK := Lib.hid (KK.out.then k12)
    clear k12
    obtain ⟨q7, e7, rfl⟩ := ho.ints.form
    clear ho
    have hz3 : decide ((0 : Int) < ((memM (A &&& B) 4096).length : Int)) = q3 := by rw [HQ3.out]; exact len_some (small_and SA.out)
    clear HQ3
    generalize (memM (A &&& B) 4096).length = q8 at hz3 ⊢
    obtain ⟨a0, a1⟩ := Ba.out
    obtain ⟨b0, b1⟩ := Bb.out
    go_wp2_with fail
    go_ret
    exact ⟨by simp; rw [← hz3]; simp, KK.out⟩
end Go.Proofs.YteaagllpkcpedaaGreatDoor
