/-
  arbaclaw01.BitsCombines: the walk. Made by mk_bc.py.
-/
import Derived.Test.YteaagllpkcpedaaGreatDoorBAw
import Derived.Test.YteaagllpkcpedaaGreatDoorBBx
import Derived.Test.YteaagllpkcpedaaGreatDoorBRa
import Derived.Test.YteaagllpkcpedaaGreatDoorBOr
import Derived.Test.YteaagllpkcpedaaGreatDoorBAn
namespace Go.Proofs.YteaagllpkcpedaaGreatDoor
open Go.RowKit
set_option linter.unusedSimpArgs false
set_option linter.unusedVariables false

theorem small_len {M : Nat} (_h : Small M) : (memM M 4096).length ≤ 4096 := memM_le _ _

set_option maxRecDepth 100000 in
set_option maxHeartbeats 6400000 in
theorem combines_law (w : World) (va vb : Value) (xs ys : List Int) (ha : Ints w va xs) (hb : Ints w vb ys) (hL : Libs w) :
    Calls Tryz.prog 3 #[va, vb] w fun e w' => e = .returned (.bool true) ∧ Kept (fun _ => False) w w' := by
  have HL := Lib.hid hL; have HA := Lib.hid ha; have HB := Lib.hid hb
  clear hL ha hb
  go_enter Tryz.func3, Tryz.ntmps3
  go_wp2_with fail
  refine (aw_any w HL.out).mono ?_
  rintro e wa ⟨rfl, k1⟩
  have KK := Lib.hid k1
  clear k1
  go_wp2_with fail
  refine (few_any _ _ xs (HA.out.kept KK.out (fun _ _ h => h))).mono ?_
  rintro e wf ⟨ua, rfl, hi, rfl⟩
  have HX := Lib.hid hi
  have hxl : (xs.take 60).length ≤ 60 := by simp; omega
  have HXL := Lib.hid hxl
  clear hi hxl
  go_wp2_with fail
  refine (few_any _ _ ys (HB.out.kept KK.out (fun _ _ h => h))).mono ?_
  rintro e wf ⟨ub, rfl, hi, rfl⟩
  have HY := Lib.hid hi
  have hyl : (ys.take 60).length ≤ 60 := by simp; omega
  have HYL := Lib.hid hyl
  clear hi hyl HA HB
  generalize xs.take 60 = X at HX HXL
  generalize ys.take 60 = Y at HY HYL
  go_wp2_with fail
  refine (of_any _ _ X HX.out).mono ?_
  rintro e w1 ⟨s1, rfl, hs, -, k1⟩
  have Ha := Lib.hid hs
  obtain ⟨la, pa, na, ca, rfl⟩ := hs.form
  replace HX := Lib.hid (HX.out.kept k1 (fun _ _ h => h))
  replace HY := Lib.hid (HY.out.kept k1 (fun _ _ h => h))
  replace KK := Lib.hid (KK.out.then k1)
  clear hs k1
  go_wp2_with fail
  refine (of_any _ _ Y HY.out).mono ?_
  rintro e w2 ⟨s2, rfl, hs, -, k1⟩
  have Hb := Lib.hid hs
  obtain ⟨lb, pb, nb, cb, rfl⟩ := hs.form
  replace Ha := Lib.hid (Ha.out.onC k1)
  replace HX := Lib.hid (HX.out.kept k1 (fun _ _ h => h))
  replace HY := Lib.hid (HY.out.kept k1 (fun _ _ h => h))
  replace KK := Lib.hid (KK.out.then k1)
  clear hs k1
  have HMX := Lib.hid (maskOf_append X Y)
  have SA := Lib.hid (maskOf_small X)
  have SB := Lib.hid (maskOf_small Y)
  go_wp2_with fail
  refine (rof_any _ _ X HX.out (by have := HXL.out; omega)).mono ?_
  rintro e w3 ⟨u3, rfl, hu, k1⟩
  rw [ofL_mask] at hu
  have Hi3 := Lib.hid hu.ints
  replace Ha := Lib.hid (Ha.out.onC k1)
  replace Hb := Lib.hid (Hb.out.onC k1)
  replace HX := Lib.hid (HX.out.kept k1 (fun _ _ h => h))
  replace HY := Lib.hid (HY.out.kept k1 (fun _ _ h => h))
  replace KK := Lib.hid (KK.out.then k1)
  clear hu k1
  go_wp2_with fail
  refine (rof_any _ _ Y HY.out (by have := HYL.out; omega)).mono ?_
  rintro e w4 ⟨u4, rfl, hu, k1⟩
  rw [ofL_mask] at hu
  have Hi4 := Lib.hid hu.ints
  replace Ha := Lib.hid (Ha.out.onC k1)
  replace Hb := Lib.hid (Hb.out.onC k1)
  replace HX := Lib.hid (HX.out.kept k1 (fun _ _ h => h))
  replace HY := Lib.hid (HY.out.kept k1 (fun _ _ h => h))
  replace Hi3 := Lib.hid (Hi3.out.kept k1 (fun _ _ h => h))
  replace KK := Lib.hid (KK.out.then k1)
  clear hu k1
  obtain ⟨A, hA⟩ : ∃ A, A = maskOf X := ⟨_, rfl⟩
  obtain ⟨B, hB⟩ : ∃ B, B = maskOf Y := ⟨_, rfl⟩
  rw [← hA] at Ha Hi3 SA HMX
  rw [← hB] at Hb Hi4 SB HMX
  clear hA hB
  obtain ⟨ba, bb, k0⟩ := box2 w4 la lb pa pb na ca nb cb
  have Ba := Lib.hid ba; have Bb := Lib.hid bb
  replace Ha := Lib.hid (Ha.out.onC k0)
  replace Hb := Lib.hid (Hb.out.onC k0)
  replace HX := Lib.hid (HX.out.kept k0 (fun _ _ h => h))
  replace HY := Lib.hid (HY.out.kept k0 (fun _ _ h => h))
  replace Hi3 := Lib.hid (Hi3.out.kept k0 (fun _ _ h => h))
  replace Hi4 := Lib.hid (Hi4.out.kept k0 (fun _ _ h => h))
  replace KK := Lib.hid (KK.out.then k0)
  clear ba bb k0
  go_wp2_with fail
  refine (or_any _ _ _ A B Ha.out Hb.out SA.out SB.out).mono ?_
  rintro e w5 ⟨v5, rfl, hs, -, k5⟩
  replace Ha := Lib.hid (Ha.out.onC k5)
  replace Hb := Lib.hid (Hb.out.onC k5)
  replace HX := Lib.hid (HX.out.kept k5 (fun _ _ h => h))
  replace HY := Lib.hid (HY.out.kept k5 (fun _ _ h => h))
  replace Hi3 := Lib.hid (Hi3.out.kept k5 (fun _ _ h => h))
  replace Hi4 := Lib.hid (Hi4.out.kept k5 (fun _ _ h => h))
  replace Ba := Lib.hid (Ba.out.onC k5)
  replace Bb := Lib.hid (Bb.out.onC k5)
  replace KK := Lib.hid (KK.out.then k5)
  clear k5
  have Ht := Lib.hid hs
  clear hs
  obtain ⟨a1, c1, w6, hr1, ho1, hk1⟩ := append_ints_run (own_new w5) (HX.out.kept (Kept.alloc (fun _ => False) w5 (.cells #[] 3)) (fun _ _ h => h)) (by have := HXL.out; simp; omega) (by simp)
  have hkk : Kept (fun _ => False) w5 w6 := (Kept.alloc (fun _ => False) w5 (.cells #[] 3)).trans hk1 (fun _ _ h => h) (fun i hi e => by simp [Value.ownBlock] at e; omega)
  rw [List.nil_append] at hr1 ho1
  obtain ⟨a2, c2, w7, hr2, ho2, hk2⟩ := append_ints_run ho1 (HY.out.kept hkk (fun _ _ h => h)) (by have := HXL.out; have := HYL.out; omega) (by have := hkk.size; omega)
  have hk7 : Kept (fun _ => False) w5 w7 := hkk.trans hk2 (fun _ _ h => h) (fun i hi e => by have := ho1.lt i e; omega)
  have R1 := Lib.hid hr1; have R2 := Lib.hid hr2
  have HO := Lib.hid ho2.ints
  have HXY : Hid ((X ++ Y).length ≤ 5000) := by have := HXL.out; have := HYL.out; show _ ≤ _; simp; omega
  clear hr1 hr2 ho1 ho2 hk1 hk2 hkk
  clear HX HY HXL HYL
  generalize X ++ Y = Z at R2 HO HXY HMX
  go_wp2_with (at_builtin; (first | refine wpList_appendI_run (by rfl) _ _ _ _ rfl _ _ rfl rfl R1.out ?_ | refine wpList_appendI_run (by rfl) _ _ _ _ rfl _ _ rfl rfl R2.out ?_))
  clear R1 R2
  replace Ha := Lib.hid (Ha.out.onC hk7)
  replace Hb := Lib.hid (Hb.out.onC hk7)
  replace Ht := Lib.hid (Ht.out.onC hk7)
  replace Hi3 := Lib.hid (Hi3.out.kept hk7 (fun _ _ h => h))
  replace Hi4 := Lib.hid (Hi4.out.kept hk7 (fun _ _ h => h))
  replace Ba := Lib.hid (Ba.out.onC hk7)
  replace Bb := Lib.hid (Bb.out.onC hk7)
  replace KK := Lib.hid (KK.out.then hk7)
  clear hk7
  refine (rof_any _ _ Z HO.out HXY.out).mono ?_
  rintro e w8 ⟨u8, rfl, hu, k8⟩
  rw [ofL_mask, HMX.out] at hu
  have Hi8 := Lib.hid hu.ints
  clear hu HO HXY HMX
  replace Ha := Lib.hid (Ha.out.onC k8)
  replace Hb := Lib.hid (Hb.out.onC k8)
  replace Ht := Lib.hid (Ht.out.onC k8)
  replace Hi3 := Lib.hid (Hi3.out.kept k8 (fun _ _ h => h))
  replace Hi4 := Lib.hid (Hi4.out.kept k8 (fun _ _ h => h))
  replace Ba := Lib.hid (Ba.out.onC k8)
  replace Bb := Lib.hid (Bb.out.onC k8)
  replace KK := Lib.hid (KK.out.then k8)
  clear k8
  obtain ⟨a0, a1⟩ := Ba.out
  obtain ⟨b0, b1⟩ := Bb.out
  go_wp2_with fail
  refine (is_any _ _ _ (A ||| B) Ht.out (small_or SA.out SB.out) Hi8.out (HL.out.kept KK.out).tz).mono ?_
  rintro e w9 ⟨rfl, k9⟩
  clear Ht Hi8
  clear a0 a1 b0 b1
  replace Ha := Lib.hid (Ha.out.onC k9)
  replace Hb := Lib.hid (Hb.out.onC k9)
  replace Hi3 := Lib.hid (Hi3.out.kept k9 (fun _ _ h => h))
  replace Hi4 := Lib.hid (Hi4.out.kept k9 (fun _ _ h => h))
  replace Ba := Lib.hid (Ba.out.onC k9)
  replace Bb := Lib.hid (Bb.out.onC k9)
  replace KK := Lib.hid (KK.out.then k9)
  clear k9
  obtain ⟨a0, a1⟩ := Ba.out
  obtain ⟨b0, b1⟩ := Bb.out
  go_wp2_with fail
  refine (and_any _ _ _ A B Ha.out Hb.out SA.out SB.out).mono ?_
  rintro e wx ⟨vx, rfl, hs, -, kx⟩
  clear a0 a1 b0 b1
  replace Ha := Lib.hid (Ha.out.onC kx)
  replace Hb := Lib.hid (Hb.out.onC kx)
  replace Hi3 := Lib.hid (Hi3.out.kept kx (fun _ _ h => h))
  replace Hi4 := Lib.hid (Hi4.out.kept kx (fun _ _ h => h))
  replace Ba := Lib.hid (Ba.out.onC kx)
  replace Bb := Lib.hid (Bb.out.onC kx)
  replace KK := Lib.hid (KK.out.then kx)
  clear kx
  have Ht := Lib.hid hs
  clear hs
  obtain ⟨a0, a1⟩ := Ba.out
  obtain ⟨b0, b1⟩ := Bb.out
  go_wp2_with fail
  refine (rand_any _ _ _ _ _ Hi3.out Hi4.out (by have := small_len SA.out; omega)).mono ?_
  rintro e wy ⟨uy, rfl, hu, ky⟩
  rw [filter_and] at hu
  have Hi8 := Lib.hid hu.ints
  clear hu
  clear a0 a1 b0 b1
  replace Ha := Lib.hid (Ha.out.onC ky)
  replace Hb := Lib.hid (Hb.out.onC ky)
  replace Ht := Lib.hid (Ht.out.onC ky)
  replace Hi3 := Lib.hid (Hi3.out.kept ky (fun _ _ h => h))
  replace Hi4 := Lib.hid (Hi4.out.kept ky (fun _ _ h => h))
  replace Ba := Lib.hid (Ba.out.onC ky)
  replace Bb := Lib.hid (Bb.out.onC ky)
  replace KK := Lib.hid (KK.out.then ky)
  clear ky
  obtain ⟨a0, a1⟩ := Ba.out
  obtain ⟨b0, b1⟩ := Bb.out
  go_wp2_with fail
  refine (is_any _ _ _ (A &&& B) Ht.out (small_and SA.out) Hi8.out (HL.out.kept KK.out).tz).mono ?_
  rintro e wz ⟨rfl, kz⟩
  clear Ht Hi8
  clear a0 a1 b0 b1
  replace Ha := Lib.hid (Ha.out.onC kz)
  replace Hb := Lib.hid (Hb.out.onC kz)
  replace Hi3 := Lib.hid (Hi3.out.kept kz (fun _ _ h => h))
  replace Hi4 := Lib.hid (Hi4.out.kept kz (fun _ _ h => h))
  replace Ba := Lib.hid (Ba.out.onC kz)
  replace Bb := Lib.hid (Bb.out.onC kz)
  replace KK := Lib.hid (KK.out.then kz)
  clear kz
  obtain ⟨a0, a1⟩ := Ba.out
  obtain ⟨b0, b1⟩ := Bb.out
  go_wp2_with fail
  refine (minus_any _ _ _ A B Ha.out Hb.out SA.out SB.out).mono ?_
  rintro e wx ⟨vx, rfl, hs, -, kx⟩
  clear a0 a1 b0 b1
  replace Ha := Lib.hid (Ha.out.onC kx)
  replace Hb := Lib.hid (Hb.out.onC kx)
  replace Hi3 := Lib.hid (Hi3.out.kept kx (fun _ _ h => h))
  replace Hi4 := Lib.hid (Hi4.out.kept kx (fun _ _ h => h))
  replace Ba := Lib.hid (Ba.out.onC kx)
  replace Bb := Lib.hid (Bb.out.onC kx)
  replace KK := Lib.hid (KK.out.then kx)
  clear kx
  have Ht := Lib.hid hs
  clear hs
  obtain ⟨a0, a1⟩ := Ba.out
  obtain ⟨b0, b1⟩ := Bb.out
  go_wp2_with fail
  refine (rminus_any _ _ _ _ _ Hi3.out Hi4.out (by have := small_len SA.out; omega)).mono ?_
  rintro e wy ⟨uy, rfl, hu, ky⟩
  rw [filter_not] at hu
  have Hi8 := Lib.hid hu.ints
  clear hu
  clear a0 a1 b0 b1
  replace Ha := Lib.hid (Ha.out.onC ky)
  replace Hb := Lib.hid (Hb.out.onC ky)
  replace Ht := Lib.hid (Ht.out.onC ky)
  replace Hi3 := Lib.hid (Hi3.out.kept ky (fun _ _ h => h))
  replace Hi4 := Lib.hid (Hi4.out.kept ky (fun _ _ h => h))
  replace Ba := Lib.hid (Ba.out.onC ky)
  replace Bb := Lib.hid (Bb.out.onC ky)
  replace KK := Lib.hid (KK.out.then ky)
  clear ky
  obtain ⟨a0, a1⟩ := Ba.out
  obtain ⟨b0, b1⟩ := Bb.out
  go_wp2_with fail
  refine (is_any _ _ _ (anN A B) Ht.out (small_an SA.out) Hi8.out (HL.out.kept KK.out).tz).mono ?_
  rintro e wz ⟨rfl, kz⟩
  clear Ht Hi8
  clear a0 a1 b0 b1
  replace Ha := Lib.hid (Ha.out.onC kz)
  replace Hb := Lib.hid (Hb.out.onC kz)
  replace Hi3 := Lib.hid (Hi3.out.kept kz (fun _ _ h => h))
  replace Hi4 := Lib.hid (Hi4.out.kept kz (fun _ _ h => h))
  replace Ba := Lib.hid (Ba.out.onC kz)
  replace Bb := Lib.hid (Bb.out.onC kz)
  replace KK := Lib.hid (KK.out.then kz)
  clear kz
  obtain ⟨a0, a1⟩ := Ba.out
  obtain ⟨b0, b1⟩ := Bb.out
  go_wp2_with fail
  refine (is_any _ _ _ A Ha.out SA.out Hi3.out (HL.out.kept KK.out).tz).mono ?_
  rintro e wz ⟨rfl, kz⟩
  clear a0 a1 b0 b1
  replace Ha := Lib.hid (Ha.out.onC kz)
  replace Hb := Lib.hid (Hb.out.onC kz)
  replace Hi3 := Lib.hid (Hi3.out.kept kz (fun _ _ h => h))
  replace Hi4 := Lib.hid (Hi4.out.kept kz (fun _ _ h => h))
  replace Ba := Lib.hid (Ba.out.onC kz)
  replace Bb := Lib.hid (Bb.out.onC kz)
  replace KK := Lib.hid (KK.out.then kz)
  clear kz
  obtain ⟨a0, a1⟩ := Ba.out
  obtain ⟨b0, b1⟩ := Bb.out
  go_wp2_with fail
  refine (is_any _ _ _ B Hb.out SB.out Hi4.out (HL.out.kept KK.out).tz).mono ?_
  rintro e wz ⟨rfl, kz⟩
  clear a0 a1 b0 b1
  replace Ha := Lib.hid (Ha.out.onC kz)
  replace Hb := Lib.hid (Hb.out.onC kz)
  replace Hi3 := Lib.hid (Hi3.out.kept kz (fun _ _ h => h))
  replace Hi4 := Lib.hid (Hi4.out.kept kz (fun _ _ h => h))
  replace Ba := Lib.hid (Ba.out.onC kz)
  replace Bb := Lib.hid (Bb.out.onC kz)
  replace KK := Lib.hid (KK.out.then kz)
  clear kz
  obtain ⟨a0, a1⟩ := Ba.out
  obtain ⟨b0, b1⟩ := Bb.out
  go_wp2_with fail
  go_ret
  exact ⟨by simp, KK.out⟩
end Go.Proofs.YteaagllpkcpedaaGreatDoor
