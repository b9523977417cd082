/-
  PermissionNormal returns true.
-/
import Derived.Test.YtnnakllgfaaejaaGreatDoorMgc
import Derived.Deep.RegionHeld3
namespace Go.Proofs.YtnnakllgfaaejaaGreatDoor
open Go.RowKit Go.Maps Go.WideMaps Go.ChangeMaps
set_option linter.unusedSimpArgs false
set_option linter.unusedVariables false
set_option maxRecDepth 100000

set_option maxHeartbeats 12800000 in
theorem normal11_any (v0 v1 : Value) (r0 : List RawP) (r1 : RawP) (B : Nat) (w : World) (h0 : RawsIn w v0 r0 B) (h1 : RawIn w v1 r1 B) :
    Calls Tryz.prog 3 #[v0, v1] w fun e w' => e = .returned (.bool true) ∧ Kept (fun _ => False) w w' := by
  have HL0 := Lib.hid (fun W (hk : Kept (fun _ => False) w W) => list11_any v0 r0 B W (h0.kept hk))
  have hd0 := lpS_bd r0; have hl0 := lpS_len r0
  change Hid (∀ W, _ → Calls _ _ _ W fun e w' => ∃ xa xc ya yc, e = .returned (.tuple #[.slice xa (lpS r0).length xc, .slice ya (lpS r0).length yc]) ∧ OwnQ _ _ w' (.slice xa (lpS r0).length xc) (lpS r0) ∧ OwnQ _ _ w' (.slice ya (lpS r0).length yc) (lpS r0) ∧ _) at HL0
  generalize lpS r0 = a at *
  obtain ⟨r, hr⟩ := norm_ex a
  obtain ⟨nv1, rfl, hll1, hn1, hx1, hm1⟩ := h1
  obtain ⟨n1, xs1, d1⟩ := r1
  simp only at hll1 hn1 hx1 hm1 ⊢
  have HAC := Lib.hid (fun W => raction_any n1 W hn1)
  have HPA := Lib.hid (fun W (hk : Kept (fun _ => False) w W) => rpath_any nv1 xs1 B W (hll1.kept hk (fun _ _ h => h)) hx1 hm1)
  have hps := rawS_size xs1
  generalize actS n1 = act at *
  generalize rawS xs1 = pl at *
  have hany := anyI_norm hr ⟨act, pl, false⟩
  have hrb : bdQ r := fun x hx => hd0 x ((hr.2 x).1 hx).1
  have hrr : NormS r r := by
    obtain ⟨q, hq⟩ := norm_ex r
    have := norm_norm hr hq
    rwa [this] at hq
  have HA := Lib.hid hd0; have HNR := Lib.hid hr; have HLA := Lib.hid hl0; have HRB := Lib.hid hrb; have HRR := Lib.hid hrr; have HANY := Lib.hid hany; have HPS := Lib.hid hps
  have HZ := Lib.hid (Zb.new w 25 (.int .u8 n1) nv1 (.bool d1))
  have HK := Lib.hid (Kept.alloc (fun _ => False) w (.cells #[.int .u8 n1, nv1, .bool d1] 25))
  clear h0 hd0 hl0 hr hll1 hx1 hm1 hps hany hrb hrr
  go_enter Tryz.func3, Tryz.ntmps3
  go_wp2_with fail
  refine (awake11_any _).mono ?_
  generalize w.alloc (.cells #[.int .u8 n1, nv1, .bool d1] 25) = W1 at *
  obtain ⟨Z, hZ⟩ : ∃ Z, Z = w.heap.size := ⟨_, rfl⟩
  rw [← hZ] at HZ ⊢
  clear hZ
  rintro e w1 ⟨rfl, k1⟩
  have K1 := Lib.hid (HK.out.then k1)
  have Z1 := Lib.hid (HZ.out.kept k1 (fun h => h))
  have HC := Lib.hid (HL0.out w1 K1.out)
  clear k1 HL0 HK HZ
  go_wp2_with fail
  refine HC.out.mono ?_
  rintro e w2 ⟨xa, xc, ya, yc, rfl, o1, o2, k2⟩
  have OA := Lib.hid o1.pers; have OP := Lib.hid o2.pers
  have K2 := Lib.hid (K1.out.then k2)
  have Z2 := Lib.hid (Z1.out.kept k2 (fun h => h))
  have HN0 := Lib.hid (normal_any w2 _ a OA.out HA.out (by have := HLA.out; omega))
  clear o1 o2 k2 HC K1 Z1
  go_wp2_with fail
  refine HN0.out.mono ?_
  rintro e w3 ⟨nv, r', rfl, hres⟩
  obtain rfl := hres.norm.unique HNR.out
  have hrow := hres.own.pers
  obtain ⟨na, nc, rfl, hc1, hc2⟩ := hres.own.form
  have hrl := hres.len
  have K3 := Lib.hid (K2.out.then hres.kept)
  have Z3 := Lib.hid (Z2.out.kept hres.kept (fun h => h))
  have PA := Lib.hid (OA.out.kept hres.kept (fun _ _ h => h)); have PP := Lib.hid (OP.out.kept hres.kept (fun _ _ h => h))
  obtain ⟨N, hN⟩ : ∃ N, N = r'.length := ⟨_, rfl⟩
  rw [← hN] at hrow hc1 hrl ⊢
  have HROW := Lib.hid hrow
  have HN := Lib.hid hN
  have HNB : Hid (N ≤ 8) := Lib.hid (by have := HLA.out; omega)
  unfold maxLen at hc2
  clear hres hN hrow hrl HN0 K2 Z2 OA OP
  have hNB := HNB.out
  have HS : Hid (∀ V, Kept (fun _ => False) w3 V → (V.cell? ⟨Z, 0, none⟩ = some (.int .u8 n1) ∧ V.cell? ⟨Z, 1, none⟩ = some nv1)) := Lib.hid fun V hk => ⟨(Z3.out.kept hk (fun h => h)).cells.1.1, (Z3.out.kept hk (fun h => h)).cells.1.2.1⟩
  obtain ⟨s0, s1⟩ := HS.out _ (Kept.refl _ _)
  go_wp2_with fail
  go_region_held3 (fun V => V.cell? ⟨Z, 0, none⟩ = some (.int .u8 n1) ∧ V.cell? ⟨Z, 1, none⟩ = some nv1)
    (first | exact HS.out _ KC.out | exact HS.out _ (Kept.refl _ _) | exact HS.out _ (Kept.refl _ _).drew)
    ((first | (go_at_call 10; with_reducible refine (HAC.out _).mono ?_; rintro e w4 ⟨rfl, j1⟩; have KC := Lib.hid (Kept.then (show Kept (fun _ => False) w3 _ from (by first | exact Kept.refl _ _ | exact (Kept.refl _ _).drew)) j1); clear j1) | (go_at_call 11; with_reducible refine (HPA.out _ (K3.out.then KC.out)).mono ?_; rintro e w4 ⟨rfl, j1⟩; have KD := Lib.hid (KC.out.then j1); clear KC; have KC := KD; clear KD; clear j1)))
  have K4 := Lib.hid (K3.out.then KC.out)
  replace PA := Lib.hid (PA.out.kept KC.out (fun _ _ h => h))
  replace PP := Lib.hid (PP.out.kept KC.out (fun _ _ h => h))
  replace HROW := Lib.hid (HROW.out.kept KC.out (fun _ _ h => h))
  clear KC HS s0 s1 K3 Z3 HAC HPA
  go_wp2_with fail
  have HT0 : Hid (OwnQ 36 w4.heap.size w4 (.slice none 0 0) (r'.take 0) ∧ Kept (fun _ => False) w4 w4) := Lib.hid ⟨OwnQ.nil _ _ _, Kept.refl _ _⟩
  go_loopw [10, 12, 30] (fun ov _ iv wr => ∃ (k : Nat) (a : Option Addr) (c : Nat), k ≤ N ∧ iv = .int .i64 (k : Int) ∧ ov = .slice a k c ∧ Hid (OwnQ 36 w4.heap.size wr (.slice a k c) (r'.take k) ∧ Kept (fun _ => False) w4 wr)) (fun _ _ iv _ => N - (intOf iv).toNat)
  case atStart => exact ⟨0, none, 0, Nat.zero_le _, rfl, rfl, HT0⟩
  case round =>
   obtain ⟨k, ta, tc, hk, rfl, rfl, hI⟩ := hrel
   clear HT0
   by_cases hlt : k < N
   · have l1 : (k : Int) < (N : Int) := by omega
     have l0 : (0 : Int) ≤ (k : Int) := by omega
     have hkl : k < r'.length := by have := HN.out; omega
     obtain ⟨g, off, rfl, hg, hc⟩ := (HROW.out.kept hI.out.2 (fun _ _ h => h)).at (k := k) hkl
     have hnx := take_one r' k hkl
     have htl : (r'.take k).length = k := by rw [List.length_take]; omega
     have hto := hI.out.1
     generalize r'.getD k per0 = y at hc hnx
     generalize r'.take k = acc at hnx htl hto
     subst htl
     obtain ⟨ya, yp, yd⟩ := y
     obtain ⟨c0, c1, c2⟩ := hc
     simp only at c0 c1 c2
     have hka : Kept (fun _ => False) wr (wr.alloc (.cells #[.string ya, .string yp, .bool yd] 35)) := Kept.alloc _ _ _
     have HB2 : Hid (Bx ((wr.alloc (.cells #[.string ya, .string yp, .bool yd] 35)).alloc (.cells #[.string ya, .string yp, .bool yd] 36)) (wr.heap.size + 1) ya yp yd) := Lib.hid (by
       have := Bx.new (wr.alloc (.cells #[.string ya, .string yp, .bool yd] 35)) ya yp yd 36
       rw [show (wr.alloc (.cells #[.string ya, .string yp, .bool yd] 35)).heap.size = wr.heap.size + 1 by simp] at this
       exact this)
     have H25 := Lib.hid ((hto.kept hka (fun _ _ h => h)).alloc (.cells #[.string ya, .string yp, .bool yd] 36))
     have HKW := Lib.hid (hI.out.2.then (hka.then (Kept.alloc (fun _ => False) _ (.cells #[.string ya, .string yp, .bool yd] 36))))
     have HNX := Lib.hid hnx
     have HLT : Hid (∀ j, (Value.slice ta acc.length tc).ownBlock = some j → w4.heap.size ≤ j) := Lib.hid fun j hj => (hto.lt j hj).1
     have hww := hI.out.2.size
     have hab : acc.length ≤ 1000 := by have := HNB.out; omega
     clear hg hka hnx hto hI
     go_wp2_with (first
       | (at_builtin; refine wpList_pushQ Tryz.underlying28 info_perR (by rfl) _ _ rfl rfl w4.heap.size _ acc (wr.heap.size + 1) ⟨ya, yp, yd⟩ rfl rfl H25.out HB2.out (by omega) (by simp; omega) ?_; intro a' c' wt hown4 hk4; have HOWN4 := Lib.hid hown4; have HKK4 := Lib.hid hk4; clear hown4 hk4)
       | fail)
     have hI2 : Hid (OwnQ 36 w4.heap.size wt (.slice a' (acc.length + 1) c') (r'.take (acc.length + 1)) ∧ Kept (fun _ => False) w4 wt) :=
       Lib.hid ⟨by rw [HNX.out]; exact HOWN4.out, HKW.out.trans HKK4.out (fun _ _ h => h) (fun i hi e => by have := HLT.out i e; omega)⟩
     go_roundw
     case rel => exact ⟨acc.length + 1, a', c', by omega, by go_num, rfl, hI2⟩
     case measure => simp [intOf]; omega
   · obtain rfl : k = N := by omega
     have hto := hI.out.1
     rw [HN.out, List.take_length] at hto
     have PT := Lib.hid hto.pers
     have KT := Lib.hid hI.out.2
     clear hto hI
     have K5 := Lib.hid (K4.out.then KT.out)
     replace PA := Lib.hid (PA.out.kept KT.out (fun _ _ h => h))
     replace PP := Lib.hid (PP.out.kept KT.out (fun _ _ h => h))
     replace HROW := Lib.hid (HROW.out.kept KT.out (fun _ _ h => h))
     rw [← HN.out] at PT
     have HRN := Lib.hid (rnormal_any wr _ a PP.out HA.out (by have := HLA.out; omega))
     clear KT K4
     go_wp2_with fail
     refine HRN.out.mono ?_
     rintro e w6 ⟨qa, qc, r3, rfl, n1', n2', n3', n4'⟩
     obtain rfl := n1'.unique HNR.out
     rw [← HN.out] at n3' ⊢
     have HSA := Lib.hid (lsame_any _ _ r3 r3 w6 (HROW.out.kept n4' (fun _ _ h => h)) n3'.pers)
     rw [decide_eq_true rfl] at HSA
     have K6 := Lib.hid (K5.out.then n4')
     replace PA := Lib.hid (PA.out.kept n4' (fun _ _ h => h))
     replace PP := Lib.hid (PP.out.kept n4' (fun _ _ h => h))
     replace PT := Lib.hid (PT.out.kept n4' (fun _ _ h => h))
     replace HROW := Lib.hid (HROW.out.kept n4' (fun _ _ h => h))
     clear n1' n2' n3' n4' HRN K5
     go_wp2_with fail
     refine HSA.out.mono ?_
     rintro e w7 ⟨rfl, k7⟩
     have K7 := Lib.hid (K6.out.then k7)
     have HY1 := Lib.hid (rany_any w7 _ r3 act pl (PT.out.kept k7 (fun _ _ h => h)) HRB.out (by have := HPS.out; omega) (by have := HN.out; have := HNB.out; omega))
     replace PA := Lib.hid (PA.out.kept k7 (fun _ _ h => h))
     replace PP := Lib.hid (PP.out.kept k7 (fun _ _ h => h))
     replace PT := Lib.hid (PT.out.kept k7 (fun _ _ h => h))
     replace HROW := Lib.hid (HROW.out.kept k7 (fun _ _ h => h))
     rw [HANY.out] at HY1
     have HY2 := Lib.hid (fun V (hk : Kept (fun _ => False) w7 V) => rany_any V _ a act pl (PP.out.kept hk (fun _ _ h => h)) HA.out (by have := HPS.out; omega) (by have := HLA.out; omega))
     generalize anyI a ⟨act, pl, false⟩ = AY at *
     clear k7 HSA K6
     go_wp2_with fail
     refine HY1.out.mono ?_
     rintro e w8 ⟨rfl, k8⟩
     have K8 := Lib.hid (K7.out.then k8)
     have HY3 := Lib.hid (HY2.out w8 k8)
     replace PA := Lib.hid (PA.out.kept k8 (fun _ _ h => h))
     replace PT := Lib.hid (PT.out.kept k8 (fun _ _ h => h))
     replace HROW := Lib.hid (HROW.out.kept k8 (fun _ _ h => h))
     clear k8 HY1 HY2 K7
     go_wp2_with fail
     refine HY3.out.mono ?_
     rintro e w9 ⟨rfl, k9⟩
     have K9 := Lib.hid (K8.out.then k9)
     replace PA := Lib.hid (PA.out.kept k9 (fun _ _ h => h))
     replace PT := Lib.hid (PT.out.kept k9 (fun _ _ h => h))
     replace HROW := Lib.hid (HROW.out.kept k9 (fun _ _ h => h))
     have HQ := Lib.hid (psame_at _ _ a r3 r3 r3 w9 PA.out HROW.out HA.out HRB.out (by have := HLA.out; omega) (by have := HN.out; have := HNB.out; omega) HNR.out HRR.out)
     rw [decide_eq_true rfl] at HQ
     clear k9 HY3 K8
     go_wp2_with fail
     refine HQ.out.mono ?_
     rintro e w10 ⟨rfl, k10⟩
     have K10 := Lib.hid (K9.out.then k10)
     replace PT := Lib.hid (PT.out.kept k10 (fun _ _ h => h))
     have HNN := Lib.hid (normal_any w10 _ r3 (HROW.out.kept k10 (fun _ _ h => h)) HRB.out (by have := HN.out; have := HNB.out; omega))
     clear k10 HQ K9
     go_wp2_with fail
     refine HNN.out.mono ?_
     rintro e w11 ⟨nv2, r4, rfl, hres⟩
     obtain rfl := hres.norm.unique HRR.out
     have HSB := Lib.hid (lsame_any _ _ r4 r4 w11 hres.own.pers (PT.out.kept hres.kept (fun _ _ h => h)))
     rw [decide_eq_true rfl] at HSB
     have K11 := Lib.hid (K10.out.then hres.kept)
     clear hres HNN K10
     go_wp2_with fail
     refine HSB.out.mono ?_
     rintro e w12 ⟨rfl, k12⟩
     have K12 := Lib.hid (K11.out.then k12)
     clear k12 HSB K11
     go_wp2_with fail
     go_ret
     exact ⟨rfl, K12.out⟩
end Go.Proofs.YtnnakllgfaaejaaGreatDoor
