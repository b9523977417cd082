/-
  arbaclaw01.BitsOrders: the walk. Made by mk_bo.py.
-/
import Derived.Test.YteaagllpkcpedaaDoorBAw
import Derived.Test.YteaagllpkcpedaaDoorBBx
import Derived.Test.YteaagllpkcpedaaDoorBRx
namespace Go.Proofs.YteaagllpkcpedaaDoor
open Go.RowKit
set_option linter.unusedSimpArgs false
set_option linter.unusedVariables false

set_option maxRecDepth 100000 in
set_option maxHeartbeats 6400000 in
theorem orders_law (w : World) (va vb vc : Value) (xs ys zs : List Int) (ha : Ints w va xs) (hb : Ints w vb ys) (hc : Ints w vc zs) (hL : Libs w) :
    Calls Tryd.prog 5 #[va, vb, vc] w fun e w' => e = .returned (.bool true) ∧ Kept (fun _ => False) w w' := by
  have HL := Lib.hid hL; have HA := Lib.hid ha; have HB := Lib.hid hb; have HC := Lib.hid hc
  clear hL ha hb hc
  go_enter Tryd.func5, Tryd.ntmps5
  go_wp2_with fail
  refine (aw_any w HL.out).mono ?_
  rintro e wa ⟨rfl, k1⟩
  have KK := Lib.hid k1
  clear k1
  go_wp2_with fail
  refine (few_any _ _ xs (HA.out.kept KK.out (fun _ _ h => h))).mono ?_
  rintro e wfa ⟨ua, rfl, hi, rfl⟩
  have HI := Lib.hid hi
  clear hi
  go_wp2_with fail
  refine (of_any _ _ _ HI.out).mono ?_
  rintro e woa ⟨sa, rfl, hs, -, k1⟩
  replace KK := Lib.hid (KK.out.then k1)
  obtain ⟨A, hM⟩ : ∃ M, M = maskOf (xs.take 60) := ⟨_, rfl⟩
  rw [← hM] at hs
  have SA : Hid (Small A) := hM ▸ maskOf_small _
  have HMA := Lib.hid hM
  have Ha := Lib.hid hs
  obtain ⟨la, pa, na, ca, rfl⟩ := hs.form
  clear hs k1 HI hM
  go_wp2_with fail
  refine (few_any _ _ ys (HB.out.kept KK.out (fun _ _ h => h))).mono ?_
  rintro e wfb ⟨ub, rfl, hi, rfl⟩
  have HI := Lib.hid hi
  clear hi
  go_wp2_with fail
  refine (of_any _ _ _ HI.out).mono ?_
  rintro e wob ⟨sb, rfl, hs, -, k1⟩
  replace Ha := Lib.hid (Ha.out.onC k1)
  replace KK := Lib.hid (KK.out.then k1)
  obtain ⟨B, hM⟩ : ∃ M, M = maskOf (ys.take 60) := ⟨_, rfl⟩
  rw [← hM] at hs
  have SB : Hid (Small B) := hM ▸ maskOf_small _
  have HMB := Lib.hid hM
  have Hb := Lib.hid hs
  obtain ⟨lb, pb, nb, cb, rfl⟩ := hs.form
  clear hs k1 HI hM
  go_wp2_with fail
  refine (few_any _ _ zs (HC.out.kept KK.out (fun _ _ h => h))).mono ?_
  rintro e wfc ⟨uc, rfl, hi, rfl⟩
  have HI := Lib.hid hi
  clear hi
  go_wp2_with fail
  refine (of_any _ _ _ HI.out).mono ?_
  rintro e woc ⟨sc, rfl, hs, -, k1⟩
  replace Ha := Lib.hid (Ha.out.onC k1)
  replace Hb := Lib.hid (Hb.out.onC k1)
  replace KK := Lib.hid (KK.out.then k1)
  obtain ⟨C, hM⟩ : ∃ M, M = maskOf (zs.take 60) := ⟨_, rfl⟩
  rw [← hM] at hs
  have SC : Hid (Small C) := hM ▸ maskOf_small _
  have HMC := Lib.hid hM
  have Hc := Lib.hid hs
  obtain ⟨lc, pc, nc, cc, rfl⟩ := hs.form
  clear hs k1 HI hM
  go_wp2_with fail
  obtain ⟨ba, bb, bc, k0⟩ := box3 woc la lb lc pa pb pc na ca nb cb nc cc
  have Ba := Lib.hid ba; have Bb := Lib.hid bb; have Bc := Lib.hid bc
  replace Ha := Lib.hid (Ha.out.onC k0)
  replace Hb := Lib.hid (Hb.out.onC k0)
  replace Hc := Lib.hid (Hc.out.onC k0)
  replace KK := Lib.hid (KK.out.then k0)
  clear ba bb bc k0
  refine (compare_list _ _ _ A B Ha.out Hb.out SA.out SB.out (HL.out.kept KK.out).tz).mono ?_
  rintro e w1 ⟨rfl, k1⟩
  replace Ha := Lib.hid (Ha.out.onC k1)
  replace Hb := Lib.hid (Hb.out.onC k1)
  replace Hc := Lib.hid (Hc.out.onC k1)
  replace Ba := Lib.hid (Ba.out.onC k1)
  replace Bb := Lib.hid (Bb.out.onC k1)
  replace Bc := Lib.hid (Bc.out.onC k1)
  replace KK := Lib.hid (KK.out.then k1)
  clear k1
  obtain ⟨r, hr⟩ : ∃ r, r = cmpL (memM A 4096) (memM B 4096) := ⟨_, rfl⟩
  rw [← hr]
  have HR := Lib.hid hr
  clear hr
  obtain ⟨a0, a1⟩ := Ba.out
  obtain ⟨b0, b1⟩ := Bb.out
  obtain ⟨c0, c1⟩ := Bc.out
  go_wp2_with fail
  clear a0 a1 b0 b1 c0 c1
  refine (few_any _ _ xs (HA.out.kept KK.out (fun _ _ h => h))).mono ?_
  rintro e wg ⟨u2, rfl, hi, rfl⟩
  have Hi2 := Lib.hid hi
  clear hi
  obtain ⟨a0, a1⟩ := Ba.out
  obtain ⟨b0, b1⟩ := Bb.out
  obtain ⟨c0, c1⟩ := Bc.out
  go_wp2_with fail
  refine (rof_any _ _ _ Hi2.out (by simp; omega)).mono ?_
  rintro e w3 ⟨u3, rfl, ho3, k3⟩
  rw [ofL_mask, ← HMA.out] at ho3
  have Hi3 := Lib.hid ho3.ints
  clear Hi2 ho3 a0 a1 b0 b1 c0 c1
  replace Ha := Lib.hid (Ha.out.onC k3)
  replace Hb := Lib.hid (Hb.out.onC k3)
  replace Hc := Lib.hid (Hc.out.onC k3)
  replace Ba := Lib.hid (Ba.out.onC k3)
  replace Bb := Lib.hid (Bb.out.onC k3)
  replace Bc := Lib.hid (Bc.out.onC k3)
  replace KK := Lib.hid (KK.out.then k3)
  clear k3
  obtain ⟨a0, a1⟩ := Ba.out
  obtain ⟨b0, b1⟩ := Bb.out
  obtain ⟨c0, c1⟩ := Bc.out
  go_wp2_with fail
  clear a0 a1 b0 b1 c0 c1
  refine (few_any _ _ ys (HB.out.kept KK.out (fun _ _ h => h))).mono ?_
  rintro e wg ⟨u4, rfl, hi, rfl⟩
  have Hi4 := Lib.hid hi
  clear hi
  obtain ⟨a0, a1⟩ := Ba.out
  obtain ⟨b0, b1⟩ := Bb.out
  obtain ⟨c0, c1⟩ := Bc.out
  go_wp2_with fail
  refine (rof_any _ _ _ Hi4.out (by simp; omega)).mono ?_
  rintro e w5 ⟨u5, rfl, ho5, k5⟩
  rw [ofL_mask, ← HMB.out] at ho5
  have Hi5 := Lib.hid ho5.ints
  clear Hi4 ho5 a0 a1 b0 b1 c0 c1
  replace Ha := Lib.hid (Ha.out.onC k5)
  replace Hb := Lib.hid (Hb.out.onC k5)
  replace Hc := Lib.hid (Hc.out.onC k5)
  replace Hi3 := Lib.hid (Hi3.out.kept k5 (fun _ _ h => h))
  replace Ba := Lib.hid (Ba.out.onC k5)
  replace Bb := Lib.hid (Bb.out.onC k5)
  replace Bc := Lib.hid (Bc.out.onC k5)
  replace KK := Lib.hid (KK.out.then k5)
  clear k5
  obtain ⟨a0, a1⟩ := Ba.out
  obtain ⟨b0, b1⟩ := Bb.out
  obtain ⟨c0, c1⟩ := Bc.out
  go_wp2_with fail
  refine (rcompare_any _ _ _ _ _ Hi3.out Hi5.out).mono ?_
  rintro e w6 ⟨rfl, k6⟩
  rw [← HR.out]
  clear Hi3 Hi5 a0 a1 b0 b1 c0 c1 HA HB HC HMA HMB HMC
  replace Ha := Lib.hid (Ha.out.onC k6)
  replace Hb := Lib.hid (Hb.out.onC k6)
  replace Hc := Lib.hid (Hc.out.onC k6)
  replace Ba := Lib.hid (Ba.out.onC k6)
  replace Bb := Lib.hid (Bb.out.onC k6)
  replace Bc := Lib.hid (Bc.out.onC k6)
  replace KK := Lib.hid (KK.out.then k6)
  clear k6
  obtain ⟨a0, a1⟩ := Ba.out
  obtain ⟨b0, b1⟩ := Bb.out
  obtain ⟨c0, c1⟩ := Bc.out
  go_wp2_with fail
  refine (compare_list _ _ _ B A Hb.out Ha.out SB.out SA.out (HL.out.kept KK.out).tz).mono ?_
  rintro e w7 ⟨rfl, k7⟩
  rw [cmpL_anti (memM A 4096) (memM B 4096), ← HR.out]
  clear a0 a1 b0 b1 c0 c1
  replace Ha := Lib.hid (Ha.out.onC k7)
  replace Hb := Lib.hid (Hb.out.onC k7)
  replace Hc := Lib.hid (Hc.out.onC k7)
  replace Ba := Lib.hid (Ba.out.onC k7)
  replace Bb := Lib.hid (Bb.out.onC k7)
  replace Bc := Lib.hid (Bc.out.onC k7)
  replace KK := Lib.hid (KK.out.then k7)
  clear k7
  have hr3 : (r = -1 ∧ IntKind.i64.wrap (-r) = 1 ∧ -r = 1) ∨ (r = 0 ∧ IntKind.i64.wrap (-r) = 0 ∧ -r = 0) ∨ (r = 1 ∧ IntKind.i64.wrap (-r) = -1 ∧ -r = -1) := by
    rcases cmpL_range (memM A 4096) (memM B 4096) with h | h | h
    · left; rw [HR.out, h]; decide
    · right; left; rw [HR.out, h]; decide
    · right; right; rw [HR.out, h]; decide
  have heq : (r = 0 ∧ decide (A = B) = true) ∨ (r ≠ 0 ∧ decide (A = B) = false) := by
    by_cases h : A = B
    · exact Or.inl ⟨by rw [HR.out, h]; exact (cmpL_zero _ _).2 rfl, by simpa using h⟩
    · exact Or.inr ⟨fun e => h (memM_inj SA.out SB.out ((cmpL_zero _ _).1 (HR.out ▸ e))), by simpa using h⟩
  have htr : Hid (r ≤ 0 → cmpL (memM B 4096) (memM C 4096) ≤ 0 → cmpL (memM A 4096) (memM C 4096) ≤ 0) := fun h1 h2 => cmpL_trans _ _ _ (HR.out ▸ h1) h2
  clear HR
  rcases hr3 with ⟨rfl, hw1, hw2⟩ | ⟨rfl, hw1, hw2⟩ | ⟨rfl, hw1, hw2⟩
  · have hde : decide (A = B) = false := by
      rcases heq with ⟨h1, h2⟩ | ⟨h1, h2⟩
      · omega
      · exact h2
    clear heq
    obtain ⟨a0, a1⟩ := Ba.out
    obtain ⟨b0, b1⟩ := Bb.out
    obtain ⟨c0, c1⟩ := Bc.out
    go_wp2_with fail
    refine (equal_any _ _ _ A B Ha.out Hb.out).mono ?_
    rintro e w8 ⟨rfl, k8⟩
    rw [hde]
    clear hde a0 a1 b0 b1 c0 c1
    replace Ha := Lib.hid (Ha.out.onC k8)
    replace Hb := Lib.hid (Hb.out.onC k8)
    replace Hc := Lib.hid (Hc.out.onC k8)
    replace Ba := Lib.hid (Ba.out.onC k8)
    replace Bb := Lib.hid (Bb.out.onC k8)
    replace Bc := Lib.hid (Bc.out.onC k8)
    replace KK := Lib.hid (KK.out.then k8)
    clear k8
    obtain ⟨a0, a1⟩ := Ba.out
    obtain ⟨b0, b1⟩ := Bb.out
    obtain ⟨c0, c1⟩ := Bc.out
    go_wp2_with fail
    refine (compare_list _ _ _ B C Hb.out Hc.out SB.out SC.out (HL.out.kept KK.out).tz).mono ?_
    rintro e w9 ⟨rfl, k9⟩
    clear a0 a1 b0 b1 c0 c1
    replace Ha := Lib.hid (Ha.out.onC k9)
    replace Hb := Lib.hid (Hb.out.onC k9)
    replace Hc := Lib.hid (Hc.out.onC k9)
    replace Ba := Lib.hid (Ba.out.onC k9)
    replace Bb := Lib.hid (Bb.out.onC k9)
    replace Bc := Lib.hid (Bc.out.onC k9)
    replace KK := Lib.hid (KK.out.then k9)
    clear k9
    obtain ⟨q, hq⟩ : ∃ q, q = cmpL (memM B 4096) (memM C 4096) := ⟨_, rfl⟩
    have hq3 := cmpL_range (memM B 4096) (memM C 4096)
    rw [← hq] at htr hq3 ⊢
    clear hq
    rcases hq3 with rfl | rfl | rfl
    · obtain ⟨a0, a1⟩ := Ba.out
      obtain ⟨b0, b1⟩ := Bb.out
      obtain ⟨c0, c1⟩ := Bc.out
      go_wp2_with fail
      refine (compare_list _ _ _ A C Ha.out Hc.out SA.out SC.out (HL.out.kept KK.out).tz).mono ?_
      rintro e w10 ⟨rfl, k10⟩
      have hle := htr.out (by omega) (by omega)
      clear htr a0 a1 b0 b1 c0 c1
      generalize cmpL (memM A 4096) (memM C 4096) = s at hle ⊢
      replace Ha := Lib.hid (Ha.out.onC k10)
      replace Hb := Lib.hid (Hb.out.onC k10)
      replace Hc := Lib.hid (Hc.out.onC k10)
      replace Ba := Lib.hid (Ba.out.onC k10)
      replace Bb := Lib.hid (Bb.out.onC k10)
      replace Bc := Lib.hid (Bc.out.onC k10)
      replace KK := Lib.hid (KK.out.then k10)
      clear k10
      obtain ⟨a0, a1⟩ := Ba.out
      obtain ⟨b0, b1⟩ := Bb.out
      obtain ⟨c0, c1⟩ := Bc.out
      go_wp2_with fail
      go_ret
      exact ⟨by simp <;> omega, KK.out⟩
    · obtain ⟨a0, a1⟩ := Ba.out
      obtain ⟨b0, b1⟩ := Bb.out
      obtain ⟨c0, c1⟩ := Bc.out
      go_wp2_with fail
      refine (compare_list _ _ _ A C Ha.out Hc.out SA.out SC.out (HL.out.kept KK.out).tz).mono ?_
      rintro e w10 ⟨rfl, k10⟩
      have hle := htr.out (by omega) (by omega)
      clear htr a0 a1 b0 b1 c0 c1
      generalize cmpL (memM A 4096) (memM C 4096) = s at hle ⊢
      replace Ha := Lib.hid (Ha.out.onC k10)
      replace Hb := Lib.hid (Hb.out.onC k10)
      replace Hc := Lib.hid (Hc.out.onC k10)
      replace Ba := Lib.hid (Ba.out.onC k10)
      replace Bb := Lib.hid (Bb.out.onC k10)
      replace Bc := Lib.hid (Bc.out.onC k10)
      replace KK := Lib.hid (KK.out.then k10)
      clear k10
      obtain ⟨a0, a1⟩ := Ba.out
      obtain ⟨b0, b1⟩ := Bb.out
      obtain ⟨c0, c1⟩ := Bc.out
      go_wp2_with fail
      go_ret
      exact ⟨by simp <;> omega, KK.out⟩
    · obtain ⟨a0, a1⟩ := Ba.out
      obtain ⟨b0, b1⟩ := Bb.out
      obtain ⟨c0, c1⟩ := Bc.out
      go_wp2_with fail
      go_ret
      exact ⟨by simp, KK.out⟩
  · have hde : decide (A = B) = true := by
      rcases heq with ⟨h1, h2⟩ | ⟨h1, h2⟩
      · exact h2
      · omega
    clear heq
    obtain ⟨a0, a1⟩ := Ba.out
    obtain ⟨b0, b1⟩ := Bb.out
    obtain ⟨c0, c1⟩ := Bc.out
    go_wp2_with fail
    refine (equal_any _ _ _ A B Ha.out Hb.out).mono ?_
    rintro e w8 ⟨rfl, k8⟩
    rw [hde]
    clear hde a0 a1 b0 b1 c0 c1
    replace Ha := Lib.hid (Ha.out.onC k8)
    replace Hb := Lib.hid (Hb.out.onC k8)
    replace Hc := Lib.hid (Hc.out.onC k8)
    replace Ba := Lib.hid (Ba.out.onC k8)
    replace Bb := Lib.hid (Bb.out.onC k8)
    replace Bc := Lib.hid (Bc.out.onC k8)
    replace KK := Lib.hid (KK.out.then k8)
    clear k8
    obtain ⟨a0, a1⟩ := Ba.out
    obtain ⟨b0, b1⟩ := Bb.out
    obtain ⟨c0, c1⟩ := Bc.out
    go_wp2_with fail
    refine (compare_list _ _ _ B C Hb.out Hc.out SB.out SC.out (HL.out.kept KK.out).tz).mono ?_
    rintro e w9 ⟨rfl, k9⟩
    clear a0 a1 b0 b1 c0 c1
    replace Ha := Lib.hid (Ha.out.onC k9)
    replace Hb := Lib.hid (Hb.out.onC k9)
    replace Hc := Lib.hid (Hc.out.onC k9)
    replace Ba := Lib.hid (Ba.out.onC k9)
    replace Bb := Lib.hid (Bb.out.onC k9)
    replace Bc := Lib.hid (Bc.out.onC k9)
    replace KK := Lib.hid (KK.out.then k9)
    clear k9
    obtain ⟨q, hq⟩ : ∃ q, q = cmpL (memM B 4096) (memM C 4096) := ⟨_, rfl⟩
    have hq3 := cmpL_range (memM B 4096) (memM C 4096)
    rw [← hq] at htr hq3 ⊢
    clear hq
    rcases hq3 with rfl | rfl | rfl
    · obtain ⟨a0, a1⟩ := Ba.out
      obtain ⟨b0, b1⟩ := Bb.out
      obtain ⟨c0, c1⟩ := Bc.out
      go_wp2_with fail
      refine (compare_list _ _ _ A C Ha.out Hc.out SA.out SC.out (HL.out.kept KK.out).tz).mono ?_
      rintro e w10 ⟨rfl, k10⟩
      have hle := htr.out (by omega) (by omega)
      clear htr a0 a1 b0 b1 c0 c1
      generalize cmpL (memM A 4096) (memM C 4096) = s at hle ⊢
      replace Ha := Lib.hid (Ha.out.onC k10)
      replace Hb := Lib.hid (Hb.out.onC k10)
      replace Hc := Lib.hid (Hc.out.onC k10)
      replace Ba := Lib.hid (Ba.out.onC k10)
      replace Bb := Lib.hid (Bb.out.onC k10)
      replace Bc := Lib.hid (Bc.out.onC k10)
      replace KK := Lib.hid (KK.out.then k10)
      clear k10
      obtain ⟨a0, a1⟩ := Ba.out
      obtain ⟨b0, b1⟩ := Bb.out
      obtain ⟨c0, c1⟩ := Bc.out
      go_wp2_with fail
      go_ret
      exact ⟨by simp <;> omega, KK.out⟩
    · obtain ⟨a0, a1⟩ := Ba.out
      obtain ⟨b0, b1⟩ := Bb.out
      obtain ⟨c0, c1⟩ := Bc.out
      go_wp2_with fail
      refine (compare_list _ _ _ A C Ha.out Hc.out SA.out SC.out (HL.out.kept KK.out).tz).mono ?_
      rintro e w10 ⟨rfl, k10⟩
      have hle := htr.out (by omega) (by omega)
      clear htr a0 a1 b0 b1 c0 c1
      generalize cmpL (memM A 4096) (memM C 4096) = s at hle ⊢
      replace Ha := Lib.hid (Ha.out.onC k10)
      replace Hb := Lib.hid (Hb.out.onC k10)
      replace Hc := Lib.hid (Hc.out.onC k10)
      replace Ba := Lib.hid (Ba.out.onC k10)
      replace Bb := Lib.hid (Bb.out.onC k10)
      replace Bc := Lib.hid (Bc.out.onC k10)
      replace KK := Lib.hid (KK.out.then k10)
      clear k10
      obtain ⟨a0, a1⟩ := Ba.out
      obtain ⟨b0, b1⟩ := Bb.out
      obtain ⟨c0, c1⟩ := Bc.out
      go_wp2_with fail
      go_ret
      exact ⟨by simp <;> omega, KK.out⟩
    · obtain ⟨a0, a1⟩ := Ba.out
      obtain ⟨b0, b1⟩ := Bb.out
      obtain ⟨c0, c1⟩ := Bc.out
      go_wp2_with fail
      go_ret
      exact ⟨by simp, KK.out⟩
  · have hde : decide (A = B) = false := by
      rcases heq with ⟨h1, h2⟩ | ⟨h1, h2⟩
      · omega
      · exact h2
    clear heq
    obtain ⟨a0, a1⟩ := Ba.out
    obtain ⟨b0, b1⟩ := Bb.out
    obtain ⟨c0, c1⟩ := Bc.out
    go_wp2_with fail
    refine (equal_any _ _ _ A B Ha.out Hb.out).mono ?_
    rintro e w8 ⟨rfl, k8⟩
    rw [hde]
    clear hde a0 a1 b0 b1 c0 c1
    replace Ha := Lib.hid (Ha.out.onC k8)
    replace Hb := Lib.hid (Hb.out.onC k8)
    replace Hc := Lib.hid (Hc.out.onC k8)
    replace Ba := Lib.hid (Ba.out.onC k8)
    replace Bb := Lib.hid (Bb.out.onC k8)
    replace Bc := Lib.hid (Bc.out.onC k8)
    replace KK := Lib.hid (KK.out.then k8)
    clear k8
    obtain ⟨a0, a1⟩ := Ba.out
    obtain ⟨b0, b1⟩ := Bb.out
    obtain ⟨c0, c1⟩ := Bc.out
    go_wp2_with fail
    go_ret
    exact ⟨by simp, KK.out⟩
end Go.Proofs.YteaagllpkcpedaaDoor
