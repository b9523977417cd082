/-
  PermissionSame returns true.
-/
import Derived.Test.YtnnakllgfaaejaaGreatDoorMgc
namespace Go.Proofs.YtnnakllgfaaejaaGreatDoor
open Go.RowKit Go.Maps Go.WideMaps Go.ChangeMaps
set_option linter.unusedSimpArgs false
set_option linter.unusedVariables false
set_option maxRecDepth 100000

set_option maxHeartbeats 6400000 in
theorem same11_any (v0 v1 : Value) (r0 r1 : List RawP) (B : Nat) (w : World) (h0 : RawsIn w v0 r0 B) (h1 : RawsIn w v1 r1 B) :
    Calls Tryz.prog 4 #[v0, v1] w fun e w' => e = .returned (.bool true) ∧ Kept (fun _ => False) w w' := by
  have HL0 := Lib.hid (fun W (hk : Kept (fun _ => False) w W) => list11_any v0 r0 B W (h0.kept hk))
  have HL1 := Lib.hid (fun W (hk : Kept (fun _ => False) w W) => list11_any v1 r1 B W (h1.kept hk))
  have hd0 := lpS_bd r0; have hd1 := lpS_bd r1; have hl0 := lpS_len r0; have hl1 := lpS_len r1
  change Hid (∀ W, _ → Calls _ _ _ W fun e w' => ∃ xa xc ya yc, e = .returned (.tuple #[.slice xa (lpS r0).length xc, .slice ya (lpS r0).length yc]) ∧ OwnQ _ _ w' (.slice xa (lpS r0).length xc) (lpS r0) ∧ OwnQ _ _ w' (.slice ya (lpS r0).length yc) (lpS r0) ∧ _) at HL0
  change Hid (∀ W, _ → Calls _ _ _ W fun e w' => ∃ xa xc ya yc, e = .returned (.tuple #[.slice xa (lpS r1).length xc, .slice ya (lpS r1).length yc]) ∧ OwnQ _ _ w' (.slice xa (lpS r1).length xc) (lpS r1) ∧ OwnQ _ _ w' (.slice ya (lpS r1).length yc) (lpS r1) ∧ _) at HL1
  generalize lpS r0 = a at *
  generalize lpS r1 = b at *
  obtain ⟨r, hr⟩ := norm_ex a
  obtain ⟨s, hs⟩ := norm_ex b
  obtain ⟨t, ht⟩ := norm_ex (b ++ a)
  have hsum := same_sum hr ht hs
  have hsy : decide (s = r) = decide (r = s) := by rw [Bool.eq_iff_iff, decide_eq_true_iff, decide_eq_true_iff]; exact ⟨Eq.symm, Eq.symm⟩
  have HA := Lib.hid hd0; have HB := Lib.hid hd1; have HNR := Lib.hid hr; have HNS := Lib.hid hs; have HNT := Lib.hid ht; have HSUM := Lib.hid hsum; have HSY := Lib.hid hsy
  obtain ⟨la, hla⟩ : ∃ la, la = a.length := ⟨_, rfl⟩
  obtain ⟨lb, hlb⟩ : ∃ lb, lb = b.length := ⟨_, rfl⟩
  have HLA := Lib.hid hl0; have HLB := Lib.hid hl1
  clear h0 h1 hd0 hd1 hl0 hl1 hr hs ht hsum hsy hla hlb
  go_enter Tryz.func4, Tryz.ntmps4
  go_wp2_with fail
  refine (awake11_any _).mono ?_
  rintro e w1 ⟨rfl, k1⟩
  have K1 := Lib.hid k1
  have HC := Lib.hid (HL0.out w1 k1)
  clear k1 HL0
  go_wp2_with fail
  refine HC.out.mono ?_
  rintro e w2 ⟨xa, xc, ya, yc, rfl, o1, o2, k2⟩
  have OA := Lib.hid o1.pers; have OP := Lib.hid o2.pers
  have K2 := Lib.hid (K1.out.then k2)
  have HC1 := Lib.hid (HL1.out w2 K2.out)
  clear o1 o2 k2 HC HL1 K1
  go_wp2_with fail
  refine HC1.out.mono ?_
  rintro e w3 ⟨xb, xd, yb, yd, rfl, o3, o4, k3⟩
  have PA := Lib.hid (OA.out.kept k3 (fun _ _ h => by cases h)); have PP := Lib.hid (OP.out.kept k3 (fun _ _ h => by cases h)); have PB := Lib.hid o3.pers; have PQ := Lib.hid o4.pers
  have K3 := Lib.hid (K2.out.then k3)
  clear o3 o4 k3 HC1 K2 OA OP
  have HN0 := Lib.hid (rnormal_any w3 _ a PP.out HA.out (by have := HLA.out; omega))
  go_wp2_with fail
  refine HN0.out.mono ?_
  rintro e w4 ⟨na, nc, r', rfl, n1, n2, n3, n4⟩
  obtain rfl := n1.unique HNR.out
  have O4 := Lib.hid n3.pers; have K4 := Lib.hid n4
  have HN1 := Lib.hid (rnormal_any w4 _ b (PQ.out.kept n4 (fun _ _ h => h)) HB.out (by have := HLB.out; omega))
  clear n1 n2 n3 n4 HN0
  go_wp2_with fail
  refine HN1.out.mono ?_
  rintro e w5 ⟨ma, mc, s', rfl, n1, n2, n3, n4⟩
  obtain rfl := n1.unique HNS.out
  have K5 := Lib.hid (K4.out.then n4)
  have HS := Lib.hid (rsame_any _ _ _ _ w5 (O4.out.kept n4 (fun _ _ h => h)) n3.pers)
  clear n1 n2 n3 n4 HN1 K4 O4
  go_wp2_with fail
  refine HS.out.mono ?_
  rintro e w6 ⟨rfl, k6⟩
  have K6 := Lib.hid (K5.out.then k6)
  have HQ1 := Lib.hid (psame_at _ _ a b r' s' w6 (PA.out.kept K6.out (fun _ _ h => h)) (PB.out.kept K6.out (fun _ _ h => h)) HA.out HB.out (by have := HLA.out; omega) (by have := HLB.out; omega) HNR.out HNS.out)
  clear k6 HS K5
  obtain ⟨B1, hB1⟩ : ∃ B1, B1 = decide (r' = s') := ⟨_, rfl⟩
  have HB1 := Lib.hid hB1
  rw [← hB1] at HQ1 ⊢
  clear hB1
  go_wp2_with fail
  refine HQ1.out.mono ?_
  rintro e w7 ⟨rfl, k7⟩
  have K7 := Lib.hid (K6.out.then k7)
  have HQ2 := Lib.hid (psame_at _ _ b a s' r' w7 (PB.out.kept K7.out (fun _ _ h => h)) (PA.out.kept K7.out (fun _ _ h => h)) HB.out HA.out (by have := HLB.out; omega) (by have := HLA.out; omega) HNS.out HNR.out)
  rw [HSY.out, ← HB1.out] at HQ2
  clear k7 HQ1 K6
  go_wp2_with fail
  refine HQ2.out.mono ?_
  rintro e w8 ⟨rfl, k8⟩
  have K8 := Lib.hid (K7.out.then k8)
  clear k8 HQ2 K7
  obtain ⟨a1, c1, w9, a2, c2, w10, g1, g2, g3, g4⟩ := cat2_run w8 w8.heap.size (Nat.le_refl _) _ _ b a (PB.out.kept K8.out (fun _ _ h => h)) (PA.out.kept K8.out (fun _ _ h => h)) (by have := HLB.out; omega) (by have := HLA.out; omega)
  have G1 := Lib.hid g1; have G2 := Lib.hid g2
  have K10 := Lib.hid (K8.out.then g4)
  have HQ3 := Lib.hid (psame_at _ _ a (b ++ a) r' t w10 (PA.out.kept K10.out (fun _ _ h => h)) g3.pers HA.out (bdQ_append HB.out HA.out) (by have := HLA.out; omega) (by have := HLA.out; have := HLB.out; rw [List.length_append]; omega) HNR.out HNT.out)
  obtain ⟨B2, hB2⟩ : ∃ B2, B2 = decide (r' = t) := ⟨_, rfl⟩
  have HB2 := Lib.hid hB2
  rw [← hB2] at HQ3
  have HMI := Lib.hid (fun W (hk : Kept (fun _ => False) w10 W) => rminus_any W _ _ b a (PQ.out.kept (K10.out.then hk) (fun _ _ h => h)) (PP.out.kept (K10.out.then hk) (fun _ _ h => h)) HB.out HA.out (by have := HLB.out; omega))
  generalize (b ++ a).length = L3 at G2 HQ3
  clear g1 g2 g3 g4 hB2
  go_wp2_with (first
    | (at_builtin; have _g := G1; clear _g; refine wpList_catQ (ts := 27) (by simp [Region.wanted, yielded]) _ _ rfl rfl _ _ rfl rfl G1.out ?_; clear G1)
    | (at_builtin; have _g := G2; clear _g; refine wpList_catQ (ts := 27) (by simp [Region.wanted, yielded]) _ _ rfl rfl _ _ rfl rfl G2.out ?_; clear G2)
    | fail)
  refine HQ3.out.mono ?_
  rintro e w11 ⟨rfl, k11⟩
  have HM := Lib.hid (HMI.out w11 k11)
  have K11 := Lib.hid (K10.out.then k11)
  clear k11 HQ3 HMI
  go_wp2_with fail
  refine HM.out.mono ?_
  rintro e w12 ⟨fa, fc, s2, rfl, m1, m2, m3⟩
  obtain rfl := m1.unique HNS.out
  have K12 := Lib.hid (K11.out.then m3)
  have K13 := Lib.hid (K3.out.then K12.out)
  have hb2 : B2 = decide ((minS s2 a).length = 0) := by rw [HB2.out]; exact HSUM.out
  clear m1 m2 m3 HM
  cases B2 with
  | true =>
    have hz : (minS s2 a).length = 0 := of_decide_eq_true hb2.symm
    have hz2 : (((minS s2 a).length : Nat) : Int) = 0 := by omega
    clear hb2
    go_wp2_with fail
    go_ret
    exact ⟨rfl, K13.out⟩
  | false =>
    have hz : ¬ (minS s2 a).length = 0 := of_decide_eq_false hb2.symm
    have hz2 : ¬ (((minS s2 a).length : Nat) : Int) = 0 := by omega
    have hz3 : ((((minS s2 a).length : Nat) : Int) == 0) = false := by rw [beq_eq_false_iff_ne]; exact hz2
    clear hb2
    go_wp2_with fail
    go_ret
    exact ⟨rfl, K13.out⟩
end Go.Proofs.YtnnakllgfaaejaaGreatDoor
