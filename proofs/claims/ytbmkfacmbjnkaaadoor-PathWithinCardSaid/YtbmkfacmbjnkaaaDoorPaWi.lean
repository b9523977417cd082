/-
  arbaclaw07.PathWithin: the walk of the law.
-/
import Derived.Test.YtbmkfacmbjnkaaaDoorPaAk
import Derived.Test.YtbmkfacmbjnkaaaDoorPaD
namespace Go.Proofs.YtbmkfacmbjnkaaaDoor
open Go.RowKit Go.Maps Go.WideMaps Go.ChangeMaps
set_option linter.unusedSimpArgs false
set_option linter.unusedVariables false

set_option maxRecDepth 100000 in
set_option maxHeartbeats 3200000 in
theorem within_law (s t : ByteArray) (hs : s.size ≤ maxLen) (ht : t.size ≤ maxLen) (w : World) :
    Calls Tryd.prog 5 #[.string s, .string t] w fun e w' => e = .returned (.bool true) ∧ Kept (fun _ => False) w w' := by
  have hc1 := cut_any s hs
  have hc2 := cut_any t ht
  have hz1 := cutT_size s
  have hz2 := cutT_size t
  generalize cutT s = x at hc1 hz1
  generalize cutT t = y at hc2 hz2
  have hco := common_any x y (by omega) (by omega)
  have hrco := qcommonP_any x y (by omega) (by omega)
  have hw1 := within_any x y (by omega) (by omega)
  have hw2 := within_any y x (by omega) (by omega)
  have hq1 := qwithin_any x y (by omega) (by omega)
  have hq2 := qwithin_any y x (by omega) (by omega)
  have hv1 := qvalid_any x (by omega)
  have hv2 := qvalid_any y (by omega)
  have hcb : (commonS x y).isSome = ((namesS x).isSome && (namesS y).isSome) := by
    unfold commonS
    cases namesS x <;> cases namesS y <;> rfl
  rw [hcb] at hco
  generalize (commonS x y).getD ⟨#[]⟩ = c at hco hrco
  generalize withinS x y = b1 at hw1 hq1
  generalize withinS y x = b2 at hw2 hq2
  clear hcb
  generalize (namesS x).isSome = n1 at hv1 hco
  generalize (namesS y).isSome = n2 at hv2 hco
  have HC1 := Lib.hid hc1; have HC2 := Lib.hid hc2; have HCO := Lib.hid hco; have HRCO := Lib.hid hrco
  have HW1 := Lib.hid hw1; have HW2 := Lib.hid hw2; have HQ1 := Lib.hid hq1; have HQ2 := Lib.hid hq2; have HV1 := Lib.hid hv1; have HV2 := Lib.hid hv2
  clear hc1 hc2 hco hrco hw1 hw2 hq1 hq2 hv1 hv2 hz1 hz2 hs ht
  go_enter Tryd.func5, Tryd.ntmps5
  go_wp2_with fail
  refine (awake7_any _).mono ?_
  rintro e w1 ⟨rfl, k1⟩
  have K1 := Lib.hid k1; clear k1
  go_wp2_with fail
  refine (HC1.out _).mono ?_
  rintro e w2 ⟨rfl, rfl⟩
  go_wp2_with fail
  refine (HC2.out _).mono ?_
  rintro e w3 ⟨rfl, rfl⟩
  go_wp2_with fail
  refine (HCO.out _).mono ?_
  rintro e w4 ⟨rfl, k4⟩
  have K4 := Lib.hid (K1.out.then k4); clear k4
  go_wp2_with fail
  refine (HW1.out _).mono ?_
  rintro e w5 ⟨rfl, k5⟩
  have K5 := Lib.hid (K4.out.then k5); clear k5
  go_wp2_with fail
  refine (HQ1.out _).mono ?_
  rintro e w6 ⟨rfl, k6⟩
  have K6 := Lib.hid (K5.out.then k6); clear k6
  go_wp2_with fail
  refine (HW2.out _).mono ?_
  rintro e w7 ⟨rfl, k7⟩
  have K7 := Lib.hid (K6.out.then k7); clear k7
  go_wp2_with fail
  refine (HQ2.out _).mono ?_
  rintro e w8 ⟨rfl, k8⟩
  have K8 := Lib.hid (K7.out.then k8); clear k8
  go_wp2_with fail
  refine (HRCO.out _).mono ?_
  rintro e w9 ⟨rfl, k9⟩
  have K9 := Lib.hid (K8.out.then k9); clear k9
  go_wp2_with fail
  refine (HV1.out _).mono ?_
  rintro e w10 ⟨rfl, k10⟩
  have K10 := Lib.hid (K9.out.then k10); clear k10
  cases n1 with
  | false =>
    go_wp2_with fail
    go_ret
    exact ⟨rfl, K10.out⟩
  | true =>
    go_wp2_with fail
    refine (HV2.out _).mono ?_
    rintro e w11 ⟨rfl, k11⟩
    have K11 := Lib.hid (K10.out.then k11); clear k11
    go_wp2_with fail
    go_ret
    exact ⟨by first | rfl | simp, K11.out⟩
end Go.Proofs.YtbmkfacmbjnkaaaDoor
