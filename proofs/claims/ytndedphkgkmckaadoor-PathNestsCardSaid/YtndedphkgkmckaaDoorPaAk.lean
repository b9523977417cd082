/-
  arbaclaw07.awake; arbaclaw07.cut.
-/
import Derived.Test.YtndedphkgkmckaaDoorPaAw
namespace Go.Proofs.YtndedphkgkmckaaDoor
open Go.RowKit Go.Maps Go.WideMaps Go.ChangeMaps
set_option linter.unusedSimpArgs false
set_option linter.unusedVariables false

theorem newTreeL_any (w : World) : Calls Tryd.prog 33 #[] w fun e w' => ∃ g, e = .returned (.pointer (some ⟨g, 0, none⟩)) ∧ TreeL w' g (.map none) [] ∧ w.heap.size ≤ g ∧ Kept (fun _ => False) w w' := by
  refine (newTree_any w).mono ?_
  rintro e w' ⟨g, rfl, ht, h1, h2⟩
  exact ⟨g, rfl, ht, h1, h2⟩

theorem aw_children (w : World) (g : Nat) (mv : Value) (h : TreeL w g mv [sAC, sA, sAB]) :
    Calls Tryd.prog 16 #[.pointer (some ⟨g, 0, none⟩), .string sA] w fun e w' => ∃ v, e = .returned v ∧ Strs w' v [sAB, sAC] ∧ Kept (fun _ => False) w w' := by
  refine (children_any w g mv _ sA h tree_paths (by simp)).mono ?_
  rintro e w' ⟨v, r, rfl, hr⟩
  have : r = [sAB, sAC] := sortedP_unique hr.sorted sortedABAC fun x => by
    rw [hr.mem x]
    constructor
    · rintro ⟨h1, h2⟩
      simp at h1
      rcases h1 with rfl | rfl | rfl
      · simp
      · rw [kA] at h2; exact absurd h2 (by simp)
      · simp
    · intro h1
      simp at h1
      rcases h1 with rfl | rfl
      · exact ⟨by simp, kAB⟩
      · exact ⟨by simp, kAC⟩
  subst this
  exact ⟨v, rfl, hr.row, hr.kept⟩

theorem aw_equal (w : World) (v : Value) (xs : List ByteArray) (cs : Array Value) (T : TypeId) (n : Nat) (hn : n = xs.length) (hcs : cs.toList = xs.map Value.string) (hm : n ≤ maxLen) (h : Strs w v xs) :
    Calls Tryd.prog 10 #[v, .slice (some ⟨w.heap.size, 0, none⟩) n n] (w.alloc (.cells cs T)) fun e w' => e = .returned (.bool true) ∧ Kept (fun _ => False) w w' := by
  have := sequal_any v (.slice (some ⟨w.heap.size, 0, none⟩) n n) xs xs (w.alloc (.cells cs T)) (h.kept (Kept.alloc (fun _ => False) _ _) (fun _ _ h => h)) (strs_new w cs T n xs hn hcs hm)
  rw [show decide (xs = xs) = true by simp] at this
  refine this.mono ?_
  rintro e w' ⟨rfl, m, rfl⟩
  exact ⟨rfl, (Kept.alloc (fun _ => False) w (.cells cs T)).drewN m⟩

set_option maxRecDepth 100000 in
set_option maxHeartbeats 3200000 in
theorem awake7_any (w : World) : Calls Tryd.prog 7 #[] w fun e w' => e = .returned (.bool true) ∧ Kept (fun _ => False) w w' := by
  have hCO : ∀ W, Calls Tryd.prog 32 #[.string sAB, .string sAC] W fun e w' => e = .returned (.tuple #[.string ⟨#[47, 97]⟩, .bool true]) ∧ Kept (fun _ => False) W w' := fun W => by
    have := common_any sAB sAC (by decide) (by decide) W
    rw [cAC] at this
    exact this
  have hA1 : ∀ W g, TreeL W g (.map none) [] → Calls Tryd.prog 19 #[.pointer (some ⟨g, 0, none⟩), .string sAB] W fun e w' => ∃ g' m', e = .returned (.tuple #[.pointer (some ⟨g', 0, none⟩), .int .i64 0]) ∧ TreeL w' g' (.map (some m')) [sA, sAB] ∧ Kept (fun _ => False) W w' := fun W g h => by
    refine (add_ok W g _ [] sAB _ h (by decide) nAB (by simp)).mono ?_
    rintro e w' ⟨g', m', rfl, ht, _, _, _, hk⟩
    exact ⟨g', m', rfl, by rw [← add1]; exact ht, hk⟩
  have hA2 : ∀ W g m, TreeL W g (.map (some m)) [sA, sAB] → Calls Tryd.prog 19 #[.pointer (some ⟨g, 0, none⟩), .string sAC] W fun e w' => ∃ g' m', e = .returned (.tuple #[.pointer (some ⟨g', 0, none⟩), .int .i64 0]) ∧ TreeL w' g' (.map (some m')) [sAC, sA, sAB] ∧ Kept (fun _ => False) W w' := fun W g m h => by
    refine (add_ok W g _ [sA, sAB] sAC _ h (by decide) nAC (by simp)).mono ?_
    rintro e w' ⟨g', m', rfl, ht, _, _, _, hk⟩
    exact ⟨g', m', rfl, by rw [← add2]; exact ht, hk⟩
  have hRM : ∀ W g m, TreeL W g (.map (some m)) [sAC, sA, sAB] → Calls Tryd.prog 21 #[.pointer (some ⟨g, 0, none⟩), .string sA] W fun e w' => e = .returned (.tuple #[.pointer none, .int .i64 7]) ∧ Kept (fun _ => False) W w' := fun W g m h =>
    remove_state W g _ _ sA h tree_paths (by simp) (by decide) (by rw [nA]; rfl) (by rw [ByteArray.toList_eq]; decide) (by kernel_rfl) ⟨sAB, by simp, kAB⟩
  have hV1 : ∀ W, Calls Tryd.prog 34 #[.string sABC] W fun e w' => e = .returned (.bool true) ∧ Kept (fun _ => False) W w' := fun W => by
    have := pvalid_any sABC (by decide) W
    rw [nABC] at this; exact this
  have hV2 : ∀ W, Calls Tryd.prog 34 #[.string sAs] W fun e w' => e = .returned (.bool false) ∧ Kept (fun _ => False) W w' := fun W => by
    have := pvalid_any sAs (by decide) W
    rw [nAs] at this; exact this
  have hNA : ∀ W, Calls Tryd.prog 35 #[.string sABC] W fun e w' => ∃ v, e = .returned v ∧ Strs w' v [⟨#[97]⟩, ⟨#[98, 46, 99]⟩] ∧ Kept (fun _ => False) W w' := fun W => by
    refine (pnames_any sABC (by decide) W).mono ?_
    rintro e w' ⟨v, rfl, hr⟩
    have := hr.row
    rw [nABC] at this
    exact ⟨v, rfl, this, hr.kept⟩
  have hW1 : ∀ W, Calls Tryd.prog 27 #[.string sab, .string sA] W fun e w' => e = .returned (.bool false) ∧ Kept (fun _ => False) W w' := fun W => by
    have := within_any sab sA (by decide) (by decide) W
    rw [wab] at this; exact this
  have hW2 : ∀ W, Calls Tryd.prog 27 #[.string sAB, .string sA] W fun e w' => e = .returned (.bool true) ∧ Kept (fun _ => False) W w' := fun W => by
    have := within_any sAB sA (by decide) (by decide) W
    rw [wAB] at this; exact this
  have hCM : ∀ W, Calls Tryd.prog 36 #[.string sAB, .string sAdB] W fun e w' => e = .returned (.int .i64 (-1)) ∧ Kept (fun _ => False) W w' := fun W => by
    refine (compare_any sAB sAdB (by decide) (by decide) W).mono ?_
    rintro e w' ⟨rfl, hk, _⟩
    rw [cmpAd]
    exact ⟨rfl, hk⟩
  have HCO := Lib.hid hCO; have HA1 := Lib.hid hA1; have HA2 := Lib.hid hA2; have HRM := Lib.hid hRM; have HV1 := Lib.hid hV1; have HV2 := Lib.hid hV2
  have HNA := Lib.hid hNA; have HW1 := Lib.hid hW1; have HW2 := Lib.hid hW2; have HCM := Lib.hid hCM
  clear hCO hA1 hA2 hRM hV1 hV2 hNA hW1 hW2 hCM
  go_enter Tryd.func7, Tryd.ntmps7
  go_wp2_with fail
  refine (HCO.out _).mono ?_
  rintro e w1 ⟨rfl, k1⟩
  have K1 := Lib.hid k1; clear k1
  go_wp2_with fail
  refine (newTreeL_any _).mono ?_
  rintro e w2 ⟨g2, rfl, t2, _, k2⟩
  have K2 := Lib.hid (K1.out.then k2); have T2 := Lib.hid t2; clear k2 t2
  go_wp2_with fail
  refine (HA1.out _ _ T2.out).mono ?_
  rintro e w3 ⟨g3, m3, rfl, t3, k3⟩
  have K3 := Lib.hid (K2.out.then k3); have T3 := Lib.hid t3; clear k3 t3 T2
  go_wp2_with fail
  refine (HA2.out _ _ _ T3.out).mono ?_
  rintro e w4 ⟨g4, m4, rfl, t4, k4⟩
  have K4 := Lib.hid (K3.out.then k4); have T4 := Lib.hid t4; clear k4 t4 T3
  go_wp2_with fail
  refine (HRM.out _ _ _ T4.out).mono ?_
  rintro e w5 ⟨rfl, k5⟩
  have K5 := Lib.hid (K4.out.then k5); have T5 := Lib.hid (T4.out.stay k5); clear k5 T4
  go_wp2_with fail
  refine (HV1.out _).mono ?_
  rintro e w6 ⟨rfl, k6⟩
  have K6 := Lib.hid (K5.out.then k6); have T6 := Lib.hid (T5.out.stay k6); clear k6 T5
  go_wp2_with fail
  refine (HV2.out _).mono ?_
  rintro e w7 ⟨rfl, k7⟩
  have K7 := Lib.hid (K6.out.then k7); have T7 := Lib.hid (T6.out.stay k7); clear k7 T6
  go_wp2_with fail
  refine (HNA.out _).mono ?_
  rintro e w8 ⟨v8, rfl, s8, k8⟩
  have K8 := Lib.hid (K7.out.then k8); have T8 := Lib.hid (T7.out.stay k8); have S8 := Lib.hid s8; clear k8 s8 T7
  go_wp2_with fail
  refine (aw_equal w8 v8 _ _ _ 2 rfl rfl (by decide) S8.out).mono ?_
  rintro e w9 ⟨rfl, k9⟩
  have K9 := Lib.hid (K8.out.then k9); have T9 := Lib.hid (T8.out.stay k9); clear k9 T8 S8
  go_wp2_with fail
  refine (HW1.out _).mono ?_
  rintro e w10 ⟨rfl, k10⟩
  have K10 := Lib.hid (K9.out.then k10); have T10 := Lib.hid (T9.out.stay k10); clear k10 T9
  go_wp2_with fail
  refine (HW2.out _).mono ?_
  rintro e w11 ⟨rfl, k11⟩
  have K11 := Lib.hid (K10.out.then k11); have T11 := Lib.hid (T10.out.stay k11); clear k11 T10
  go_wp2_with fail
  refine (HCM.out _).mono ?_
  rintro e w12 ⟨rfl, k12⟩
  have K12 := Lib.hid (K11.out.then k12); have T12 := Lib.hid (T11.out.stay k12); clear k12 T11
  go_wp2_with fail
  refine (tlenP_any _ _ _ _ _ T12.out).mono ?_
  rintro e w13 ⟨rfl, rfl⟩
  go_wp2_with fail
  refine (aw_children _ _ _ T12.out).mono ?_
  rintro e w14 ⟨v14, rfl, s14, k14⟩
  have K14 := Lib.hid (K12.out.then k14); have S14 := Lib.hid s14; clear k14 s14 T12
  go_wp2_with fail
  refine (aw_equal w14 v14 _ _ _ 2 rfl rfl (by decide) S14.out).mono ?_
  rintro e w15 ⟨rfl, k15⟩
  have K15 := Lib.hid (K14.out.then k15); clear k15 S14
  go_wp2_with fail
  go_ret
  exact ⟨rfl, K15.out⟩

/-- At most 200 bytes of a text. -/
def cutT (s : ByteArray) : ByteArray := s.extract 0 (min s.size 200)
theorem cutT_size (s : ByteArray) : (cutT s).size ≤ 200 := by unfold cutT; rw [ByteArray.size_extract]; omega
set_option maxRecDepth 100000 in
theorem cut_any (s : ByteArray) (hs : s.size ≤ maxLen) (w : World) : Calls Tryd.prog 13 #[.string s] w fun e w' => e = .returned (.string (cutT s)) ∧ w = w' := by
  unfold maxLen at hs
  obtain ⟨V, hV⟩ : ∃ V, V = cutT s := ⟨_, rfl⟩
  rw [← hV]
  unfold cutT at hV
  by_cases h : s.size ≤ 200
  · have e1 : min s.size 200 = s.size := by omega
    have e2 : min (s.size : Int) 200 = (s.size : Int) := by omega
    rw [e1] at hV
    have hV2 : V = s := by rw [hV]; apply ByteArray.ext; simp [ByteArray.data_extract]
    subst hV2
    clear hV
    go_enter Tryd.func13, Tryd.ntmps13
    go_wp2_with fail
    go_ret
    exact ⟨rfl, rfl⟩
  · have e1 : min s.size 200 = 200 := by omega
    have e2 : min (s.size : Int) 200 = (200 : Int) := by omega
    rw [e1] at hV
    subst hV
    go_enter Tryd.func13, Tryd.ntmps13
    go_wp2_with fail
    go_ret
    exact ⟨rfl, rfl⟩
end Go.Proofs.YtndedphkgkmckaaDoor
