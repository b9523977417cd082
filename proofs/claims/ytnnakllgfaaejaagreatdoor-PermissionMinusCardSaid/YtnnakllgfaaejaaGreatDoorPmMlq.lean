/-
  PermissionMinus returns true.
-/
import Derived.Test.YtnnakllgfaaejaaGreatDoorMgc
import Derived.Deep.RegionHeld3
namespace Go.Proofs.YtnnakllgfaaejaaGreatDoor
open Go.RowKit Go.Maps Go.WideMaps Go.ChangeMaps
set_option linter.unusedSimpArgs false
set_option linter.unusedVariables false
set_option maxRecDepth 100000

set_option maxHeartbeats 12800000 in
theorem minus11_any (v0 v1 : Value) (r0 r1 : List RawP) (B : Nat) (w : World) (h0 : RawsIn w v0 r0 B) (h1 : RawsIn w v1 r1 B) :
    Calls Tryz.prog 5 #[v0, v1] w fun e w' => e = .returned (.bool true) ∧ Kept (fun _ => False) w w' := by
  have HL0 := Lib.hid (fun W (hk : Kept (fun _ => False) w W) => list11_any v0 r0 B W (h0.kept hk))
  have HL1 := Lib.hid (fun W (hk : Kept (fun _ => False) w W) => list11_any v1 r1 B W (h1.kept hk))
  have hd0 := lpS_bd r0; have hd1 := lpS_bd r1; have hl0 := lpS_len r0; have hl1 := lpS_len r1
  change Hid (∀ W, _ → Calls _ _ _ W fun e w' => ∃ xa xc ya yc, e = .returned (.tuple #[.slice xa (lpS r0).length xc, .slice ya (lpS r0).length yc]) ∧ OwnQ _ _ w' (.slice xa (lpS r0).length xc) (lpS r0) ∧ OwnQ _ _ w' (.slice ya (lpS r0).length yc) (lpS r0) ∧ _) at HL0
  change Hid (∀ W, _ → Calls _ _ _ W fun e w' => ∃ xa xc ya yc, e = .returned (.tuple #[.slice xa (lpS r1).length xc, .slice ya (lpS r1).length yc]) ∧ OwnQ _ _ w' (.slice xa (lpS r1).length xc) (lpS r1) ∧ OwnQ _ _ w' (.slice ya (lpS r1).length yc) (lpS r1) ∧ _) at HL1
  generalize lpS r0 = a at *
  generalize lpS r1 = b at *
  obtain ⟨r, hr⟩ := norm_ex a
  have hmb : bdQ (minS r b) := fun x hx => hd0 x ((hr.2 x).1 (List.mem_filter.1 hx).1).1
  have hrl : r.length ≤ 8 := Nat.le_trans (nodup_le hr.1.nodup fun x hx => ((hr.2 x).1 hx).1) hl0
  have hml : (minS r b).length ≤ 8 := Nat.le_trans (List.length_filter_le _ r) hrl
  have hnil := min_sum_nil (b := b) (s := r) hr
  obtain ⟨t, ht⟩ := norm_ex (b ++ minS r b)
  have ht2 : NormS (a ++ b) t := by
    obtain ⟨t2, h2⟩ := norm_ex (a ++ b)
    have := (norm_eq_iff ht h2).2 (fun x => min_sum hr x)
    rw [this]; exact h2
  have HA := Lib.hid hd0; have HB := Lib.hid hd1; have HNR := Lib.hid hr; have HT := Lib.hid ht; have HT2 := Lib.hid ht2; have HMB := Lib.hid hmb; have HML := Lib.hid hml; have HNIL := Lib.hid hnil
  have HLA := Lib.hid hl0; have HLB := Lib.hid hl1
  clear h0 h1 hd0 hd1 hl0 hl1 hr ht ht2 hmb hrl hml hnil
  go_enter Tryz.func5, Tryz.ntmps5
  go_wp2_with fail
  refine (awake11_any _).mono ?_
  rintro e w1 ⟨rfl, k1⟩
  have K1 := Lib.hid k1
  have HC := Lib.hid (HL0.out w1 k1)
  clear k1 HL0
  go_wp2_with fail
  refine HC.out.mono ?_
  rintro e w2 ⟨xa, xc, ya, yc, rfl, o1, o2, k2⟩
  have OA := Lib.hid o1.pers; have OP := Lib.hid o2.pers
  have K2 := Lib.hid (K1.out.then k2)
  have HC1 := Lib.hid (HL1.out w2 K2.out)
  clear o1 o2 k2 HC HL1 K1
  go_wp2_with fail
  refine HC1.out.mono ?_
  rintro e w3 ⟨xb, xd, yb, yd, rfl, o3, o4, k3⟩
  have PA := Lib.hid (OA.out.kept k3 (fun _ _ h => by cases h)); have PP := Lib.hid (OP.out.kept k3 (fun _ _ h => by cases h)); have PB := Lib.hid o3.pers; have PQ := Lib.hid o4.pers
  have K3 := Lib.hid (K2.out.then k3)
  have HMI := Lib.hid (pminus_any _ _ a b w3 PA.out PB.out HA.out HB.out (by have := HLA.out; omega) (by have := HLB.out; omega))
  clear o3 o4 k3 HC1 K2 OA OP
  go_wp2_with fail
  refine HMI.out.mono ?_
  rintro e w4 ⟨dv, r', rfl, m1, m2, m3⟩
  obtain rfl := m1.unique HNR.out
  obtain ⟨da, dc, rfl, hc1, hc2⟩ := m2.form
  have PD := Lib.hid m2.pers
  have K4 := Lib.hid (K3.out.then m3)
  replace PA := Lib.hid (PA.out.kept m3 (fun _ _ h => h)); replace PB := Lib.hid (PB.out.kept m3 (fun _ _ h => h)); replace PP := Lib.hid (PP.out.kept m3 (fun _ _ h => h)); replace PQ := Lib.hid (PQ.out.kept m3 (fun _ _ h => h))
  obtain ⟨a1, c1, w5, a2, c2, w6, g1, g2, g3, g4⟩ := cat2_run w4 w4.heap.size (Nat.le_refl _) _ _ b (minS r' b) PB.out PD.out (by have := HLB.out; omega) (by have := HML.out; omega)
  have G1 := Lib.hid g1; have G2 := Lib.hid g2; have PS := Lib.hid g3.pers
  have K6 := Lib.hid (K4.out.then g4)
  replace PA := Lib.hid (PA.out.kept g4 (fun _ _ h => h)); replace PB := Lib.hid (PB.out.kept g4 (fun _ _ h => h)); replace PP := Lib.hid (PP.out.kept g4 (fun _ _ h => h)); replace PQ := Lib.hid (PQ.out.kept g4 (fun _ _ h => h)); replace PD := Lib.hid (PD.out.kept g4 (fun _ _ h => h))
  have HRM := Lib.hid (rminus_any w6 _ _ a b PP.out PQ.out HA.out HB.out (by have := HLA.out; omega))
  obtain ⟨d, hd⟩ : ∃ d, d = minS r' b := ⟨_, rfl⟩
  have HD := Lib.hid hd
  rw [← hd] at PD G2 PS HML HMB HT HNIL hc1 ⊢
  obtain ⟨ld, hld⟩ : ∃ ld, ld = d.length := ⟨_, rfl⟩
  have HLD := Lib.hid hld
  obtain ⟨L3, hL3⟩ : ∃ L3, L3 = (b ++ d).length := ⟨_, rfl⟩
  have HL3 := Lib.hid hL3
  rw [← hL3] at G2 PS
  rw [← hld] at PD G2 hc1 ⊢
  have HL3b : Hid (L3 ≤ 16) := Lib.hid (by rw [hL3, List.length_append]; have := HLB.out; have := HML.out; omega)
  clear m1 m2 m3 g1 g2 g3 g4 HMI K3 K4 hd hld hL3 hc2
  go_wp2_with (first
    | (at_builtin; have _g := G1; clear _g; refine wpList_catQ (ts := 27) (by simp [Region.wanted, yielded]) _ _ rfl rfl _ _ rfl rfl G1.out ?_; clear G1)
    | (at_builtin; have _g := G2; clear _g; refine wpList_catQ (ts := 27) (by simp [Region.wanted, yielded]) _ _ rfl rfl _ _ rfl rfl G2.out ?_; clear G2)
    | fail)
  refine HRM.out.mono ?_
  rintro e w7 ⟨fa, fc, r3, rfl, m1, m2, m3⟩
  obtain rfl := m1.unique HNR.out
  rw [← HD.out] at m2 ⊢
  rw [← HLD.out] at m2 ⊢
  have HSA := Lib.hid (lsame_any _ _ d d w7 (PD.out.kept m3 (fun _ _ h => h)) m2.pers)
  rw [decide_eq_true rfl] at HSA
  have K7 := Lib.hid (K6.out.then m3)
  replace PA := Lib.hid (PA.out.kept m3 (fun _ _ h => h)); replace PB := Lib.hid (PB.out.kept m3 (fun _ _ h => h)); replace PS := Lib.hid (PS.out.kept m3 (fun _ _ h => h))
  clear m1 m2 m3 HRM K6
  go_wp2_with fail
  refine HSA.out.mono ?_
  rintro e w8 ⟨rfl, k8⟩
  have K8 := Lib.hid (K7.out.then k8)
  replace PA := Lib.hid (PA.out.kept k8 (fun _ _ h => h)); replace PB := Lib.hid (PB.out.kept k8 (fun _ _ h => h)); replace PS := Lib.hid (PS.out.kept k8 (fun _ _ h => h))
  have HM2 := Lib.hid (pminus_any _ _ a (b ++ d) w8 PA.out PS.out HA.out (bdQ_append HB.out HMB.out) (by have := HLA.out; omega) (by rw [← HL3.out]; have := HL3b.out; omega))
  clear k8 HSA K7
  go_wp2_with fail
  refine HM2.out.mono ?_
  rintro e w9 ⟨dv, r4, rfl, m1, m2, m3⟩
  obtain rfl := m1.unique HNR.out
  rw [HNIL.out] at m2
  obtain ⟨za, zc, rfl, hz1, hz2⟩ := m2.form
  have K9 := Lib.hid (K8.out.then m3)
  replace PA := Lib.hid (PA.out.kept m3 (fun _ _ h => h)); replace PB := Lib.hid (PB.out.kept m3 (fun _ _ h => h)); replace PS := Lib.hid (PS.out.kept m3 (fun _ _ h => h))
  obtain ⟨a7, c7, w10, a8, c8, w11, g1, g2, g3, g4⟩ := cat2_run w9 w9.heap.size (Nat.le_refl _) _ _ a b PA.out PB.out (by have := HLA.out; omega) (by have := HLB.out; omega)
  have G3 := Lib.hid g1; have G4 := Lib.hid g2
  have HQ := Lib.hid (psame_at _ _ (b ++ d) (a ++ b) t t w11 (PS.out.kept g4 (fun _ _ h => h)) g3.pers (bdQ_append HB.out HMB.out) (bdQ_append HA.out HB.out) (by rw [← HL3.out]; have := HL3b.out; omega) (by rw [List.length_append]; have := HLA.out; have := HLB.out; omega) HT.out HT2.out)
  rw [decide_eq_true rfl] at HQ
  have K11 := Lib.hid (K9.out.then g4)
  generalize (a ++ b).length = L4 at G4 HQ
  clear m1 m2 m3 g1 g2 g3 g4 HM2 K8 K9 hz1 hz2
  go_wp2_with (first
    | (at_builtin; have _g := G3; clear _g; refine wpList_catQ (ts := 27) (by simp [Region.wanted, yielded]) _ _ rfl rfl _ _ rfl rfl G3.out ?_; clear G3)
    | (at_builtin; have _g := G4; clear _g; refine wpList_catQ (ts := 27) (by simp [Region.wanted, yielded]) _ _ rfl rfl _ _ rfl rfl G4.out ?_; clear G4)
    | fail)
  refine HQ.out.mono ?_
  rintro e w12 ⟨rfl, k12⟩
  have K12 := Lib.hid (K11.out.then k12)
  clear k12 HQ K11
  go_wp2_with fail
  go_ret
  exact ⟨rfl, K12.out⟩
end Go.Proofs.YtnnakllgfaaejaaGreatDoor
