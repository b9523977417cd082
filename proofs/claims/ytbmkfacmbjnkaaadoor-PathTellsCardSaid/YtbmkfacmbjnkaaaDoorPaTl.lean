/-
  arbaclaw07.PathTells: the walk of the law.
-/
import Derived.Test.YtbmkfacmbjnkaaaDoorPaAk
import Derived.Test.YtbmkfacmbjnkaaaDoorPaAn
namespace Go.Proofs.YtbmkfacmbjnkaaaDoor
open Go.RowKit Go.Maps Go.WideMaps Go.ChangeMaps
set_option linter.unusedSimpArgs false
set_option linter.unusedVariables false

theorem tells_eq (v1 v2 : Value) (xs : List ByteArray) (w : World) (h1 : Strs w v1 xs) (h2 : Strs w v2 xs) :
    Calls Tryd.prog 20 #[v1, v2] w fun e w' => e = .returned (.bool true) ∧ Kept (fun _ => False) w w' := by
  have := sequal_any v1 v2 xs xs w h1 h2
  rw [show decide (xs = xs) = true by simp] at this
  refine this.mono ?_
  rintro e w' ⟨rfl, m, rfl⟩
  exact ⟨rfl, (Kept.refl _ _).drewN m⟩

set_option maxRecDepth 100000 in
set_option maxHeartbeats 3200000 in
theorem tells_law (s : ByteArray) (hs : s.size ≤ maxLen) (w : World) :
    Calls Tryd.prog 3 #[.string s] w fun e w' => e = .returned (.bool true) ∧ Kept (fun _ => False) w w' := by
  have hc1 := cut_any s hs
  have hz1 := cutT_size s
  generalize cutT s = x at hc1 hz1
  have HC1 := Lib.hid hc1
  have hpar := parent_any x (by omega)
  have hdep := pdepth_any x (by omega)
  have hv1 := pvalid_any x (by omega)
  have hv2 := qvalid_any x (by omega)
  have HAN : Hid (∀ W, Calls Tryd.prog 23 #[.string x] W fun e w' => ∃ v, e = .returned v ∧ Strs w' v (ancS x) ∧ Kept (fun _ => False) W w') := fun W => panc_any x (by omega) W
  have HQN : Hid (∀ W, Calls Tryd.prog 24 #[.string x] W fun e w' => ∃ v, e = .returned v ∧ Strs w' v (ancS x) ∧ Kept (fun _ => False) W w') := fun W => qanc_any x (by omega) W
  have hna : ∀ W, Calls Tryd.prog 21 #[.string x] W fun e w' => ∃ v, e = .returned v ∧ Strs w' v ((namesS x).getD []) ∧ Kept (fun _ => False) W w' := fun W => (pnames_any x (by omega) W).mono fun e w' ⟨v, h1, h2⟩ => ⟨v, h1, h2.row, h2.kept⟩
  have hqs : ∀ W, Calls Tryd.prog 15 #[.string x] W fun e w' => ∃ v, e = .returned v ∧ Strs w' v ((namesS x).getD []) ∧ Kept (fun _ => False) W w' := fun W => (qnames_any x (by omega) W).mono fun e w' ⟨v, h1, h2⟩ => ⟨v, h1, h2.row, h2.kept⟩
  generalize ancS x = al at HAN HQN
  clear hc1 hz1 hs
  cases hn : namesS x with
  | none =>
    have e1 : parentS x = none := by unfold parentS; rw [hn]
    have e2 : depthS x = -1 := by unfold depthS; rw [hn]
    rw [e1] at hpar
    rw [e2] at hdep
    rw [hn] at hv1 hv2 hna hqs
    have HPAR : Hid (∀ W, Calls Tryd.prog 18 #[.string x] W fun e w' => e = .returned (.tuple #[.string ⟨#[]⟩, .bool false]) ∧ Kept (fun _ => False) W w') := hpar
    have HDEP := Lib.hid hdep
    have HV1 : Hid (∀ W, Calls Tryd.prog 19 #[.string x] W fun e w' => e = .returned (.bool false) ∧ Kept (fun _ => False) W w') := hv1
    have HV2 : Hid (∀ W, Calls Tryd.prog 16 #[.string x] W fun e w' => e = .returned (.bool false) ∧ Kept (fun _ => False) W w') := hv2
    have HNA : Hid (∀ W, Calls Tryd.prog 21 #[.string x] W fun e w' => ∃ v, e = .returned v ∧ Strs w' v [] ∧ Kept (fun _ => False) W w') := hna
    have HQS : Hid (∀ W, Calls Tryd.prog 15 #[.string x] W fun e w' => ∃ v, e = .returned v ∧ Strs w' v [] ∧ Kept (fun _ => False) W w') := hqs
    clear hpar hdep hv1 hv2 hna hqs hn e1 e2
    go_enter Tryd.func3, Tryd.ntmps3
    go_wp2_with fail
    refine (awake7_any _).mono ?_
    rintro e w1 ⟨rfl, k1⟩
    have K1 := Lib.hid k1; clear k1
    go_wp2_with fail
    refine (HC1.out _).mono ?_
    rintro e w2 ⟨rfl, rfl⟩
    go_wp2_with fail
    refine (HQS.out _).mono ?_
    rintro e w3 ⟨v3, rfl, hs3, k3⟩
    obtain ⟨a3, c3, rfl, hnc, hcm⟩ := hs3.form
    have K2 := Lib.hid (K1.out.then k3)
    have HROW : Hid (∀ W, Kept (fun _ => False) w3 W → Strs W (.slice a3 _ c3) _) := fun W hk => hs3.kept hk (fun _ _ h => h)
    unfold maxLen at hcm
    clear k3 hs3
    go_wp2_with fail
    refine (HV2.out _).mono ?_
    rintro e w4 ⟨rfl, k4⟩
    have K4 := Lib.hid k4; clear k4
    go_wp2_with fail  
    refine (HPAR.out _).mono ?_
    rintro e w5 ⟨rfl, k5⟩
    have K5 := Lib.hid (K4.out.then k5); clear k5
    go_wp2_with fail
    refine (HV1.out _).mono ?_
    rintro e w6 ⟨rfl, k6⟩
    have K6 := Lib.hid (K5.out.then k6); clear k6
    go_wp2_with fail
    refine (HV2.out _).mono ?_
    rintro e w7 ⟨rfl, k7⟩
    have K7 := Lib.hid (K6.out.then k7); clear k7
    go_wp2_with fail
    refine (HNA.out _).mono ?_
    rintro e w8 ⟨v8, rfl, hs8, k8⟩
    have K8 := Lib.hid (K7.out.then k8)
    have S8 := Lib.hid hs8
    clear k8 hs8
    go_wp2_with fail
    refine (tells_eq _ _ _ _ S8.out (HROW.out _ K8.out)).mono ?_
    rintro e w9 ⟨rfl, k9⟩
    have K9 := Lib.hid (K8.out.then k9); clear k9
    go_wp2_with fail
    refine (HDEP.out _).mono ?_
    rintro e w10 ⟨rfl, k10⟩
    have K10 := Lib.hid (K9.out.then k10); clear k10
    go_wp2_with fail
    refine (HAN.out _).mono ?_
    rintro e w11 ⟨v11, rfl, hs11, k11⟩
    have K11 := Lib.hid (K10.out.then k11)
    have S11 := Lib.hid hs11
    clear k11 hs11
    go_wp2_with fail
    refine (HQN.out _).mono ?_
    rintro e w12 ⟨v12, rfl, hs12, k12⟩
    have K12 := Lib.hid (K11.out.then k12)
    have S12 := Lib.hid hs12
    have S11b := Lib.hid (S11.out.kept k12 (fun _ _ h => h))
    clear k12 hs12
    go_wp2_with fail
    refine (tells_eq _ _ _ _ S11b.out S12.out).mono ?_
    rintro e w13 ⟨rfl, k13⟩
    have K13 := Lib.hid (K12.out.then k13); clear k13
    go_wp2_with fail
    go_ret
    exact ⟨by first | rfl | simp, K2.out.then K13.out⟩
  | some xs =>
    have HV1 : Hid (∀ W, Calls Tryd.prog 19 #[.string x] W fun e w' => e = .returned (.bool true) ∧ Kept (fun _ => False) W w') := by rw [hn] at hv1; exact hv1
    have HV2 : Hid (∀ W, Calls Tryd.prog 16 #[.string x] W fun e w' => e = .returned (.bool true) ∧ Kept (fun _ => False) W w') := by rw [hn] at hv2; exact hv2
    have HNA : Hid (∀ W, Calls Tryd.prog 21 #[.string x] W fun e w' => ∃ v, e = .returned v ∧ Strs w' v xs ∧ Kept (fun _ => False) W w') := by rw [hn] at hna; exact hna
    have HQS : Hid (∀ W, Calls Tryd.prog 15 #[.string x] W fun e w' => ∃ v, e = .returned v ∧ Strs w' v xs ∧ Kept (fun _ => False) W w') := by rw [hn] at hqs; exact hqs
    have hx8 : xs.length ≤ 8 := (pathS_names hn).2.2
    have e2 : depthS x = (xs.length : Int) := by unfold depthS; rw [hn]
    rw [e2] at hdep
    have HZ := Lib.hid (fun y hy => names_size (x := y) hn hy)
    clear e2 hv1 hv2 hna hqs
    by_cases h0 : xs = []
    · subst h0
      have e1 : parentS x = none := by unfold parentS; rw [hn]
      rw [e1] at hpar
      have HPAR : Hid (∀ W, Calls Tryd.prog 18 #[.string x] W fun e w' => e = .returned (.tuple #[.string ⟨#[]⟩, .bool false]) ∧ Kept (fun _ => False) W w') := hpar
      have HDEP : Hid (∀ W, Calls Tryd.prog 22 #[.string x] W fun e w' => e = .returned (.int .i64 0) ∧ Kept (fun _ => False) W w') := hdep
      clear hpar hdep hn e1 hx8
      go_enter Tryd.func3, Tryd.ntmps3
      go_wp2_with fail
      refine (awake7_any _).mono ?_
      rintro e w1 ⟨rfl, k1⟩
      have K1 := Lib.hid k1; clear k1
      go_wp2_with fail
      refine (HC1.out _).mono ?_
      rintro e w2 ⟨rfl, rfl⟩
      go_wp2_with fail
      refine (HQS.out _).mono ?_
      rintro e w3 ⟨v3, rfl, hs3, k3⟩
      obtain ⟨a3, c3, rfl, hnc, hcm⟩ := hs3.form
      have K2 := Lib.hid (K1.out.then k3)
      have HROW : Hid (∀ W, Kept (fun _ => False) w3 W → Strs W (.slice a3 _ c3) _) := fun W hk => hs3.kept hk (fun _ _ h => h)
      unfold maxLen at hcm
      clear k3 hs3
      go_wp2_with fail
      refine (HV2.out _).mono ?_
      rintro e w4 ⟨rfl, k4⟩
      have K4 := Lib.hid k4; clear k4
      go_wp2_with fail
      refine (HPAR.out _).mono ?_
      rintro e w5 ⟨rfl, k5⟩
      have K5 := Lib.hid (K4.out.then k5); clear k5
      go_wp2_with fail
      refine (HV1.out _).mono ?_
      rintro e w6 ⟨rfl, k6⟩
      have K6 := Lib.hid (K5.out.then k6); clear k6
      go_wp2_with fail
      refine (HV2.out _).mono ?_
      rintro e w7 ⟨rfl, k7⟩
      have K7 := Lib.hid (K6.out.then k7); clear k7
      go_wp2_with fail
      refine (HNA.out _).mono ?_
      rintro e w8 ⟨v8, rfl, hs8, k8⟩
      have K8 := Lib.hid (K7.out.then k8)
      have S8 := Lib.hid hs8
      clear k8 hs8
      go_wp2_with fail
      refine (tells_eq _ _ _ _ S8.out (HROW.out _ K8.out)).mono ?_
      rintro e w9 ⟨rfl, k9⟩
      have K9 := Lib.hid (K8.out.then k9); clear k9
      go_wp2_with fail
      refine (HDEP.out _).mono ?_
      rintro e w10 ⟨rfl, k10⟩
      have K10 := Lib.hid (K9.out.then k10); clear k10
      go_wp2_with fail
      refine (HAN.out _).mono ?_
      rintro e w11 ⟨v11, rfl, hs11, k11⟩
      have K11 := Lib.hid (K10.out.then k11)
      have S11 := Lib.hid hs11
      clear k11 hs11
      go_wp2_with fail
      refine (HQN.out _).mono ?_
      rintro e w12 ⟨v12, rfl, hs12, k12⟩
      have K12 := Lib.hid (K11.out.then k12)
      have S12 := Lib.hid hs12
      have S11b := Lib.hid (S11.out.kept k12 (fun _ _ h => h))
      clear k12 hs12
      go_wp2_with fail
      refine (tells_eq _ _ _ _ S11b.out S12.out).mono ?_
      rintro e w13 ⟨rfl, k13⟩
      have K13 := Lib.hid (K12.out.then k13); clear k13
      go_wp2_with fail
      go_ret
      exact ⟨by first | rfl | simp, K2.out.then K13.out⟩
    · obtain ⟨k, hk⟩ : ∃ k, xs.length = k + 1 := ⟨xs.length - 1, by have : xs.length ≠ 0 := fun e => h0 (List.length_eq_zero_iff.1 e); omega⟩
      have hp0 : x = pathS (xs.take xs.length) := by rw [List.take_length]; exact (pathS_names hn).1
      have e1 : parentS x = some (pathS (xs.take k)) := by
        have := parent_take hn xs.length (by omega) (Nat.le_refl _)
        rw [← hp0, hk] at this
        exact this
      rw [e1] at hpar
      have hqo : ∀ a c W, Strs W (.slice a (xs.take k).length c) (xs.take k) → Calls Tryd.prog 17 #[.slice a (xs.take k).length c] W fun e w' => e = .returned (.string (pathS (xs.take k))) ∧ W = w' := fun a c W h => qof_any _ _ W h (by rw [List.length_take]; omega) (fun y hy => by have := HZ.out y (List.mem_of_mem_take hy); omega)
      generalize hP : pathS (xs.take k) = P at hpar hqo
      have HPAR : Hid (∀ W, Calls Tryd.prog 18 #[.string x] W fun e w' => e = .returned (.tuple #[.string P, .bool true]) ∧ Kept (fun _ => False) W w') := hpar
      have hkl : (xs.take k).length = k := by rw [List.length_take]; omega
      rw [hkl] at hqo
      have HQO := Lib.hid hqo
      obtain ⟨n, hnn⟩ : ∃ n, n = xs.length := ⟨_, rfl⟩
      rw [← hnn] at hdep hk hx8
      have HDEP := Lib.hid hdep
      have HNN := Lib.hid hnn
      have hwr : IntKind.i64.wrap ((n : Int) - 1) = (k : Int) := by rw [IntWalk.i64_in _ (by omega)]; omega
      have l0 : (0 : Int) < (n : Int) := by omega
      have l1 : (0 : Int) ≤ (k : Int) := by omega
      have HKN := Lib.hid hk
      clear hpar hdep hn e1 hp0 hqo hP hkl h0 hnn hk
      go_enter Tryd.func3, Tryd.ntmps3
      go_wp2_with fail
      refine (awake7_any _).mono ?_
      rintro e w1 ⟨rfl, k1⟩
      have K1 := Lib.hid k1; clear k1
      go_wp2_with fail
      refine (HC1.out _).mono ?_
      rintro e w2 ⟨rfl, rfl⟩
      go_wp2_with fail
      refine (HQS.out _).mono ?_
      rintro e w3 ⟨v3, rfl, hs3, k3⟩
      obtain ⟨a3, c3, rfl, hnc, hcm⟩ := hs3.form
      have K2 := Lib.hid (K1.out.then k3)
      have HROW : Hid (∀ W, Kept (fun _ => False) w3 W → Strs W (.slice a3 _ c3) _) := fun W hk => hs3.kept hk (fun _ _ h => h)
      unfold maxLen at hcm
      have HTK : Hid (∀ W, Kept (fun _ => False) w3 W → Strs W (.slice a3 k c3) (xs.take k)) := fun W hk => (hs3.kept hk (fun _ _ h => h)).take k (by have := HNN.out; have := HKN.out; omega)
      rw [← HNN.out] at hnc HROW ⊢
      have l2 : (k : Int) ≤ (c3 : Int) := by have := HKN.out; omega
      clear k3 hs3
      go_wp2_with fail
      refine (HV2.out _).mono ?_
      rintro e w4 ⟨rfl, k4⟩
      have K4 := Lib.hid k4; clear k4
      go_wp2_with fail
      refine (HQO.out _ _ _ (HTK.out _ K4.out)).mono ?_
      rintro e w4b ⟨rfl, rfl⟩
      go_wp2_with fail
      refine (HPAR.out _).mono ?_
      rintro e w5 ⟨rfl, k5⟩
      have K5 := Lib.hid (K4.out.then k5); clear k5
      go_wp2_with fail
      refine (HV1.out _).mono ?_
      rintro e w6 ⟨rfl, k6⟩
      have K6 := Lib.hid (K5.out.then k6); clear k6
      go_wp2_with fail
      refine (HV2.out _).mono ?_
      rintro e w7 ⟨rfl, k7⟩
      have K7 := Lib.hid (K6.out.then k7); clear k7
      go_wp2_with fail
      refine (HNA.out _).mono ?_
      rintro e w8 ⟨v8, rfl, hs8, k8⟩
      have K8 := Lib.hid (K7.out.then k8)
      have S8 := Lib.hid hs8
      clear k8 hs8
      go_wp2_with fail
      refine (tells_eq _ _ _ _ S8.out (HROW.out _ K8.out)).mono ?_
      rintro e w9 ⟨rfl, k9⟩
      have K9 := Lib.hid (K8.out.then k9); clear k9
      go_wp2_with fail
      refine (HDEP.out _).mono ?_
      rintro e w10 ⟨rfl, k10⟩
      have K10 := Lib.hid (K9.out.then k10); clear k10
      go_wp2_with fail
      refine (HAN.out _).mono ?_
      rintro e w11 ⟨v11, rfl, hs11, k11⟩
      have K11 := Lib.hid (K10.out.then k11)
      have S11 := Lib.hid hs11
      clear k11 hs11
      go_wp2_with fail
      refine (HQN.out _).mono ?_
      rintro e w12 ⟨v12, rfl, hs12, k12⟩
      have K12 := Lib.hid (K11.out.then k12)
      have S12 := Lib.hid hs12
      have S11b := Lib.hid (S11.out.kept k12 (fun _ _ h => h))
      clear k12 hs12
      go_wp2_with fail
      refine (tells_eq _ _ _ _ S11b.out S12.out).mono ?_
      rintro e w13 ⟨rfl, k13⟩
      have K13 := Lib.hid (K12.out.then k13); clear k13
      go_wp2_with fail
      go_ret
      exact ⟨by first | rfl | simp, K2.out.then K13.out⟩
end Go.Proofs.YtbmkfacmbjnkaaaDoor
