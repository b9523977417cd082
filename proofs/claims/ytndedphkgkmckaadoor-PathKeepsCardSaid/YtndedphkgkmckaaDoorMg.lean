/- The first texts of this claim, one behind the other. -/
import Derived.Test.YtndedphkgkmckaaDoorPaAw
import Derived.Test.YtndedphkgkmckaaDoorPaLs
import Derived.Test.YtndedphkgkmckaaDoorPaQ
import Derived.Test.YtndedphkgkmckaaDoorPaMk
import Derived.Test.YtndedphkgkmckaaDoorPaX
import Derived.Test.YtndedphkgkmckaaDoorPaRa
import Derived.Test.YtndedphkgkmckaaDoorPaRm
import Derived.Test.YtndedphkgkmckaaDoorPaRp
import Derived.OpenShut
import Derived.ChangeMaps5
import Derived.Lib.SmallJoins
import Derived.Deep.RegionHeld3
import Derived.Test.YtndedphkgkmckaaDoorPaBe
import Derived.Test.YtndedphkgkmckaaDoorPaCh
import Derived.Deep.MidRow
/-
  arbaclaw07.awake; arbaclaw07.cut.
-/
namespace Go.Proofs.YtndedphkgkmckaaDoor
open Go.RowKit Go.Maps Go.WideMaps Go.ChangeMaps
set_option linter.unusedSimpArgs false
set_option linter.unusedVariables false

theorem newTreeL_any (w : World) : Calls Tryd.prog 33 #[] w fun e w' => ∃ g, e = .returned (.pointer (some ⟨g, 0, none⟩)) ∧ TreeL w' g (.map none) [] ∧ w.heap.size ≤ g ∧ Kept (fun _ => False) w w' := by
  refine (newTree_any w).mono ?_
  rintro e w' ⟨g, rfl, ht, h1, h2⟩
  exact ⟨g, rfl, ht, h1, h2⟩

theorem aw_children (w : World) (g : Nat) (mv : Value) (h : TreeL w g mv [sAC, sA, sAB]) :
    Calls Tryd.prog 16 #[.pointer (some ⟨g, 0, none⟩), .string sA] w fun e w' => ∃ v, e = .returned v ∧ Strs w' v [sAB, sAC] ∧ Kept (fun _ => False) w w' := by
  refine (children_any w g mv _ sA h tree_paths (by simp)).mono ?_
  rintro e w' ⟨v, r, rfl, hr⟩
  have : r = [sAB, sAC] := sortedP_unique hr.sorted sortedABAC fun x => by
    rw [hr.mem x]
    constructor
    · rintro ⟨h1, h2⟩
      simp at h1
      rcases h1 with rfl | rfl | rfl
      · simp
      · rw [kA] at h2; exact absurd h2 (by simp)
      · simp
    · intro h1
      simp at h1
      rcases h1 with rfl | rfl
      · exact ⟨by simp, kAB⟩
      · exact ⟨by simp, kAC⟩
  subst this
  exact ⟨v, rfl, hr.row, hr.kept⟩

theorem aw_equal (w : World) (v : Value) (xs : List ByteArray) (cs : Array Value) (T : TypeId) (n : Nat) (hn : n = xs.length) (hcs : cs.toList = xs.map Value.string) (hm : n ≤ maxLen) (h : Strs w v xs) :
    Calls Tryd.prog 10 #[v, .slice (some ⟨w.heap.size, 0, none⟩) n n] (w.alloc (.cells cs T)) fun e w' => e = .returned (.bool true) ∧ Kept (fun _ => False) w w' := by
  have := sequal_any v (.slice (some ⟨w.heap.size, 0, none⟩) n n) xs xs (w.alloc (.cells cs T)) (h.kept (Kept.alloc (fun _ => False) _ _) (fun _ _ h => h)) (strs_new w cs T n xs hn hcs hm)
  rw [show decide (xs = xs) = true by simp] at this
  refine this.mono ?_
  rintro e w' ⟨rfl, m, rfl⟩
  exact ⟨rfl, (Kept.alloc (fun _ => False) w (.cells cs T)).drewN m⟩

set_option maxRecDepth 100000 in
set_option maxHeartbeats 3200000 in
theorem awake7_any (w : World) : Calls Tryd.prog 7 #[] w fun e w' => e = .returned (.bool true) ∧ Kept (fun _ => False) w w' := by
  have hCO : ∀ W, Calls Tryd.prog 32 #[.string sAB, .string sAC] W fun e w' => e = .returned (.tuple #[.string ⟨#[47, 97]⟩, .bool true]) ∧ Kept (fun _ => False) W w' := fun W => by
    have := common_any sAB sAC (by decide) (by decide) W
    rw [cAC] at this
    exact this
  have hA1 : ∀ W g, TreeL W g (.map none) [] → Calls Tryd.prog 19 #[.pointer (some ⟨g, 0, none⟩), .string sAB] W fun e w' => ∃ g' m', e = .returned (.tuple #[.pointer (some ⟨g', 0, none⟩), .int .i64 0]) ∧ TreeL w' g' (.map (some m')) [sA, sAB] ∧ Kept (fun _ => False) W w' := fun W g h => by
    refine (add_ok W g _ [] sAB _ h (by decide) nAB (by simp)).mono ?_
    rintro e w' ⟨g', m', rfl, ht, _, _, _, hk⟩
    exact ⟨g', m', rfl, by rw [← add1]; exact ht, hk⟩
  have hA2 : ∀ W g m, TreeL W g (.map (some m)) [sA, sAB] → Calls Tryd.prog 19 #[.pointer (some ⟨g, 0, none⟩), .string sAC] W fun e w' => ∃ g' m', e = .returned (.tuple #[.pointer (some ⟨g', 0, none⟩), .int .i64 0]) ∧ TreeL w' g' (.map (some m')) [sAC, sA, sAB] ∧ Kept (fun _ => False) W w' := fun W g m h => by
    refine (add_ok W g _ [sA, sAB] sAC _ h (by decide) nAC (by simp)).mono ?_
    rintro e w' ⟨g', m', rfl, ht, _, _, _, hk⟩
    exact ⟨g', m', rfl, by rw [← add2]; exact ht, hk⟩
  have hRM : ∀ W g m, TreeL W g (.map (some m)) [sAC, sA, sAB] → Calls Tryd.prog 21 #[.pointer (some ⟨g, 0, none⟩), .string sA] W fun e w' => e = .returned (.tuple #[.pointer none, .int .i64 7]) ∧ Kept (fun _ => False) W w' := fun W g m h =>
    remove_state W g _ _ sA h tree_paths (by simp) (by decide) (by rw [nA]; rfl) (by rw [ByteArray.toList_eq]; decide) (by kernel_rfl) ⟨sAB, by simp, kAB⟩
  have hV1 : ∀ W, Calls Tryd.prog 34 #[.string sABC] W fun e w' => e = .returned (.bool true) ∧ Kept (fun _ => False) W w' := fun W => by
    have := pvalid_any sABC (by decide) W
    rw [nABC] at this; exact this
  have hV2 : ∀ W, Calls Tryd.prog 34 #[.string sAs] W fun e w' => e = .returned (.bool false) ∧ Kept (fun _ => False) W w' := fun W => by
    have := pvalid_any sAs (by decide) W
    rw [nAs] at this; exact this
  have hNA : ∀ W, Calls Tryd.prog 35 #[.string sABC] W fun e w' => ∃ v, e = .returned v ∧ Strs w' v [⟨#[97]⟩, ⟨#[98, 46, 99]⟩] ∧ Kept (fun _ => False) W w' := fun W => by
    refine (pnames_any sABC (by decide) W).mono ?_
    rintro e w' ⟨v, rfl, hr⟩
    have := hr.row
    rw [nABC] at this
    exact ⟨v, rfl, this, hr.kept⟩
  have hW1 : ∀ W, Calls Tryd.prog 27 #[.string sab, .string sA] W fun e w' => e = .returned (.bool false) ∧ Kept (fun _ => False) W w' := fun W => by
    have := within_any sab sA (by decide) (by decide) W
    rw [wab] at this; exact this
  have hW2 : ∀ W, Calls Tryd.prog 27 #[.string sAB, .string sA] W fun e w' => e = .returned (.bool true) ∧ Kept (fun _ => False) W w' := fun W => by
    have := within_any sAB sA (by decide) (by decide) W
    rw [wAB] at this; exact this
  have hCM : ∀ W, Calls Tryd.prog 36 #[.string sAB, .string sAdB] W fun e w' => e = .returned (.int .i64 (-1)) ∧ Kept (fun _ => False) W w' := fun W => by
    refine (compare_any sAB sAdB (by decide) (by decide) W).mono ?_
    rintro e w' ⟨rfl, hk, _⟩
    rw [cmpAd]
    exact ⟨rfl, hk⟩
  have HCO := Lib.hid hCO; have HA1 := Lib.hid hA1; have HA2 := Lib.hid hA2; have HRM := Lib.hid hRM; have HV1 := Lib.hid hV1; have HV2 := Lib.hid hV2
  have HNA := Lib.hid hNA; have HW1 := Lib.hid hW1; have HW2 := Lib.hid hW2; have HCM := Lib.hid hCM
  clear hCO hA1 hA2 hRM hV1 hV2 hNA hW1 hW2 hCM
  go_enter Tryd.func7, Tryd.ntmps7
  go_wp2_with fail
  refine (HCO.out _).mono ?_
  rintro e w1 ⟨rfl, k1⟩
  have K1 := Lib.hid k1; clear k1
  go_wp2_with fail
  refine (newTreeL_any _).mono ?_
  rintro e w2 ⟨g2, rfl, t2, _, k2⟩
  have K2 := Lib.hid (K1.out.then k2); have T2 := Lib.hid t2; clear k2 t2
  go_wp2_with fail
  refine (HA1.out _ _ T2.out).mono ?_
  rintro e w3 ⟨g3, m3, rfl, t3, k3⟩
  have K3 := Lib.hid (K2.out.then k3); have T3 := Lib.hid t3; clear k3 t3 T2
  go_wp2_with fail
  refine (HA2.out _ _ _ T3.out).mono ?_
  rintro e w4 ⟨g4, m4, rfl, t4, k4⟩
  have K4 := Lib.hid (K3.out.then k4); have T4 := Lib.hid t4; clear k4 t4 T3
  go_wp2_with fail
  refine (HRM.out _ _ _ T4.out).mono ?_
  rintro e w5 ⟨rfl, k5⟩
  have K5 := Lib.hid (K4.out.then k5); have T5 := Lib.hid (T4.out.stay k5); clear k5 T4
  go_wp2_with fail
  refine (HV1.out _).mono ?_
  rintro e w6 ⟨rfl, k6⟩
  have K6 := Lib.hid (K5.out.then k6); have T6 := Lib.hid (T5.out.stay k6); clear k6 T5
  go_wp2_with fail
  refine (HV2.out _).mono ?_
  rintro e w7 ⟨rfl, k7⟩
  have K7 := Lib.hid (K6.out.then k7); have T7 := Lib.hid (T6.out.stay k7); clear k7 T6
  go_wp2_with fail
  refine (HNA.out _).mono ?_
  rintro e w8 ⟨v8, rfl, s8, k8⟩
  have K8 := Lib.hid (K7.out.then k8); have T8 := Lib.hid (T7.out.stay k8); have S8 := Lib.hid s8; clear k8 s8 T7
  go_wp2_with fail
  refine (aw_equal w8 v8 _ _ _ 2 rfl rfl (by decide) S8.out).mono ?_
  rintro e w9 ⟨rfl, k9⟩
  have K9 := Lib.hid (K8.out.then k9); have T9 := Lib.hid (T8.out.stay k9); clear k9 T8 S8
  go_wp2_with fail
  refine (HW1.out _).mono ?_
  rintro e w10 ⟨rfl, k10⟩
  have K10 := Lib.hid (K9.out.then k10); have T10 := Lib.hid (T9.out.stay k10); clear k10 T9
  go_wp2_with fail
  refine (HW2.out _).mono ?_
  rintro e w11 ⟨rfl, k11⟩
  have K11 := Lib.hid (K10.out.then k11); have T11 := Lib.hid (T10.out.stay k11); clear k11 T10
  go_wp2_with fail
  refine (HCM.out _).mono ?_
  rintro e w12 ⟨rfl, k12⟩
  have K12 := Lib.hid (K11.out.then k12); have T12 := Lib.hid (T11.out.stay k12); clear k12 T11
  go_wp2_with fail
  refine (tlenP_any _ _ _ _ _ T12.out).mono ?_
  rintro e w13 ⟨rfl, rfl⟩
  go_wp2_with fail
  refine (aw_children _ _ _ T12.out).mono ?_
  rintro e w14 ⟨v14, rfl, s14, k14⟩
  have K14 := Lib.hid (K12.out.then k14); have S14 := Lib.hid s14; clear k14 s14 T12
  go_wp2_with fail
  refine (aw_equal w14 v14 _ _ _ 2 rfl rfl (by decide) S14.out).mono ?_
  rintro e w15 ⟨rfl, k15⟩
  have K15 := Lib.hid (K14.out.then k15); clear k15 S14
  go_wp2_with fail
  go_ret
  exact ⟨rfl, K15.out⟩

/-- At most 200 bytes of a text. -/
def cutT (s : ByteArray) : ByteArray := s.extract 0 (min s.size 200)
theorem cutT_size (s : ByteArray) : (cutT s).size ≤ 200 := by unfold cutT; rw [ByteArray.size_extract]; omega
set_option maxRecDepth 100000 in
theorem cut_any (s : ByteArray) (hs : s.size ≤ maxLen) (w : World) : Calls Tryd.prog 13 #[.string s] w fun e w' => e = .returned (.string (cutT s)) ∧ w = w' := by
  unfold maxLen at hs
  obtain ⟨V, hV⟩ : ∃ V, V = cutT s := ⟨_, rfl⟩
  rw [← hV]
  unfold cutT at hV
  by_cases h : s.size ≤ 200
  · have e1 : min s.size 200 = s.size := by omega
    have e2 : min (s.size : Int) 200 = (s.size : Int) := by omega
    rw [e1] at hV
    have hV2 : V = s := by rw [hV]; apply ByteArray.ext; simp [ByteArray.data_extract]
    subst hV2
    clear hV
    go_enter Tryd.func13, Tryd.ntmps13
    go_wp2_with fail
    go_ret
    exact ⟨rfl, rfl⟩
  · have e1 : min s.size 200 = 200 := by omega
    have e2 : min (s.size : Int) 200 = (200 : Int) := by omega
    rw [e1] at hV
    subst hV
    go_enter Tryd.func13, Tryd.ntmps13
    go_wp2_with fail
    go_ret
    exact ⟨rfl, rfl⟩
end Go.Proofs.YtndedphkgkmckaaDoor
/-
  arbaclaw07.PathCompares: the walk of the law.
-/
namespace Go.Proofs.YtndedphkgkmckaaDoor
open Go.RowKit Go.Maps Go.WideMaps Go.ChangeMaps
set_option linter.unusedSimpArgs false
set_option linter.unusedVariables false

theorem cmpN_vals : ∀ a b : List ByteArray, cmpN a b = -1 ∨ cmpN a b = 0 ∨ cmpN a b = 1
  | [], [] => by simp [cmpN]
  | [], _ :: _ => by simp [cmpN]
  | _ :: _, [] => by simp [cmpN]
  | x :: a, y :: b => by
    unfold cmpN
    split
    · exact cmpN_vals a b
    · exact cb_vals _ _
theorem compareT_vals (p q : ByteArray) : compareS p q = -1 ∨ compareS p q = 0 ∨ compareS p q = 1 := by
  unfold compareS
  cases namesS p <;> cases namesS q
  · exact cb_vals _ _
  · simp
  · simp
  · exact cmpN_vals _ _
theorem compareT_swap (p q : ByteArray) : compareS q p = - compareS p q := by
  unfold compareS
  cases namesS p <;> cases namesS q
  · exact cmpB_swap _ _
  · rfl
  · rfl
  · exact cmpN_swap _ _

end Go.Proofs.YtndedphkgkmckaaDoor
/-
  Plain words on the order of paths: what PathOrders asks.
-/
namespace Go.Proofs.YtndedphkgkmckaaDoor
open Go.RowKit
set_option linter.unusedSimpArgs false
set_option linter.unusedVariables false

theorem within_names {p q : ByteArray} {xs ys : List ByteArray} (hp : namesS p = some xs) (hq : namesS q = some ys) : withinS p q = true ↔ ys.length ≤ xs.length ∧ ys = xs.take ys.length := by
  unfold withinS
  rw [hp, hq]
  simp only [decide_eq_true_iff]
  exact comS_whole xs ys

theorem cmpN_prefix {a b : List ByteArray} (h : a.length ≤ b.length ∧ a = b.take a.length) : cmpN a b ≤ 0 := by
  have hg : ∀ i, i < a.length → a.getD i ⟨#[]⟩ = b.getD i ⟨#[]⟩ := fun i hi => by
    rw [h.2]
    simp [List.getD, List.getElem?_take, hi]
  rcases Nat.lt_or_ge a.length b.length with h1 | h1
  · rw [cmpN_right hg h1]; omega
  · rw [cmpN_same hg (by omega)]; omega

theorem prefix_mid : ∀ a b c : List ByteArray, cmpN a b ≤ 0 → cmpN b c ≤ 0 → (a.length ≤ c.length ∧ a = c.take a.length) → (a.length ≤ b.length ∧ a = b.take a.length)
  | [], b, c, _, _, _ => ⟨by simp, by simp⟩
  | x :: a, [], c, h, _, _ => by simp [cmpN] at h
  | x :: a, y :: b, [], _, _, h => by simp at h
  | x :: a, y :: b, z :: c, h1, h2, h3 => by
    have h4 := h3.2
    simp at h4
    obtain ⟨rfl, h4⟩ := h4
    unfold cmpN at h1 h2
    have hs := cmpB_swap x y
    by_cases e : cmpB x y = 0
    · have exy := cmpB_zero.1 e
      subst exy
      rw [if_pos e] at h1 h2
      have := prefix_mid a b c h1 h2 ⟨by have := h3.1; simp at this; omega, h4⟩
      refine ⟨by simp; exact this.1, ?_⟩
      simp
      exact this.2
    · rw [if_neg e] at h1
      rw [if_neg (by omega)] at h2
      omega

/-- What the law asks of three paths. -/
structure OrdF (a b c d : ByteArray) : Prop where
  trans : compareS a b ≤ 0 → compareS b c ≤ 0 → compareS a c ≤ 0
  same : compareS a b = 0 → a = b
  up : withinS b a = true → compareS a b ≤ 0
  mid : withinS c a = true → compareS a b ≤ 0 → compareS b c ≤ 0 → withinS b a = true
  com : commonS a b = some d
  da : withinS a d = true
  db : withinS b d = true
  least : withinS a c = true → withinS b c = true → withinS d c = true

theorem ordF {a b c : ByteArray} (ha : IsPath a) (hb : IsPath b) (hc : IsPath c) : ∃ d, OrdF a b c d ∧ d.size ≤ 10000 := by
  obtain ⟨la, hla⟩ := isPath_names ha
  obtain ⟨lb, hlb⟩ := isPath_names hb
  obtain ⟨lc, hlc⟩ := isPath_names hc
  have e1 : compareS a b = cmpN la lb := by unfold compareS; rw [hla, hlb]
  have e2 : compareS b c = cmpN lb lc := by unfold compareS; rw [hlb, hlc]
  have hz := compareS_zero ha hb
  refine ⟨pathS (la.take (comS la lb)), ⟨fun h1 h2 => ?_, fun h => hz.1 h, fun h => ?_, fun h h1 h2 => ?_, ?_, ?_, ?_, fun h1 h2 => ?_⟩, path_size (names_take hla _)⟩
  · by_cases h3 : compareS a b = 0
    · rw [hz.1 h3] at *; exact h2
    · by_cases h4 : compareS b c = 0
      · rw [← (compareS_zero hb hc).1 h4] at *; exact h1
      · have := compareS_trans ha hb hc (by omega) (by omega); omega
  · rw [within_names hlb hla] at h
    rw [e1]; exact cmpN_prefix h
  · rw [within_names hlc hla] at h
    rw [within_names hlb hla]
    rw [e1] at h1
    rw [e2] at h2
    exact prefix_mid la lb lc h1 h2 h
  · unfold commonS; rw [hla, hlb]
  · rw [within_take hla hla _ (comS_le la lb).1]
    have := (comS_whole la la).2 ⟨Nat.le_refl _, by simp⟩
    simp; rw [this]; exact (comS_le la lb).1
  · rw [within_take hla hlb _ (comS_le la lb).1]
    simp
  · rw [within_names hla hlc] at h1
    have hcc : c = pathS (la.take lc.length) := by rw [← h1.2]; exact (pathS_names hlc).1
    have h3 : withinS b (pathS (la.take lc.length)) = true := by rw [← hcc]; exact h2
    rw [within_take hla hlb _ h1.1] at h3
    simp at h3
    rw [within_names (names_take hla _) hlc]
    refine ⟨by rw [List.length_take]; omega, ?_⟩
    rw [List.take_take, Nat.min_eq_left h3]
    exact h1.2
end Go.Proofs.YtndedphkgkmckaaDoor
/-
  Trees of paths as lists: the program's (without the root, in no order) and the reference's.
-/
namespace Go.Proofs.YtndedphkgkmckaaDoor
open Go.RowKit
set_option linter.unusedSimpArgs false
set_option linter.unusedVariables false

def rootS : ByteArray := ⟨#[47]⟩
theorem root_iff {p : ByteArray} : p.toList = [47] ↔ p = rootS := by
  constructor
  · intro h
    exact data_inj (by rw [← ByteArray.toList_eq]; exact h)
  · rintro rfl
    rw [ByteArray.toList_eq]; rfl
theorem pathS_nil : pathS [] = rootS := by rfl
theorem names_rootS : namesS rootS = some [] := names_root

theorem mem_addL {T : Nat → ByteArray} {x : ByteArray} : ∀ (n : Nat) (ts : List ByteArray), x ∈ addL T n ts ↔ (∃ k, 0 < k ∧ k ≤ n ∧ x = T k) ∨ x ∈ ts
  | 0, ts => by
    simp only [addL]
    constructor
    · exact Or.inr
    · rintro (⟨k, h1, h2, _⟩ | h)
      · omega
      · exact h
  | n + 1, ts => by
    rw [addL, mem_addL n, mem_insU]
    constructor
    · rintro (⟨k, h1, h2, h3⟩ | h | h)
      · exact Or.inl ⟨k, h1, by omega, h3⟩
      · exact Or.inl ⟨n + 1, by omega, by omega, h⟩
      · exact Or.inr h
    · rintro (⟨k, h1, h2, h3⟩ | h)
      · by_cases e : k = n + 1
        · subst e; exact Or.inr (Or.inl h3)
        · exact Or.inl ⟨k, h1, by omega, h3⟩
      · exact Or.inr (Or.inr h)

theorem takeWhile_all {f : ByteArray → Bool} : ∀ (l : List ByteArray), ∀ x ∈ l.take (l.takeWhile f).length, f x = true
  | [], x, hx => by simp at hx
  | a :: t, x, hx => by
    by_cases h : f a = true
    · simp only [List.takeWhile, h, List.length_cons, List.take_succ_cons, List.mem_cons] at hx
      rcases hx with rfl | hx
      · exact h
      · exact takeWhile_all t x hx
    · have h : f a = false := by simpa using h
      simp [List.takeWhile, h] at hx
theorem takeWhile_head {f : ByteArray → Bool} : ∀ (l : List ByteArray) (y : ByteArray) (t : List ByteArray), l.drop (l.takeWhile f).length = y :: t → f y = false
  | [], y, t, h => by simp at h
  | a :: l, y, t, h => by
    by_cases ha : f a = true
    · simp only [List.takeWhile, ha, List.length_cons, List.drop_succ_cons] at h
      exact takeWhile_head l y t h
    · have ha : f a = false := by simpa using ha
      simp only [List.takeWhile, ha, List.length_nil, List.drop_zero] at h
      injection h with h1 h2
      rw [← h1]; exact ha

theorem insS_sorted {l : List ByteArray} {p : ByteArray} (h : SortedP l) (hp : IsPath p) : SortedP (insS l p) := by
  refine ⟨?_, fun x hx => ?_⟩
  · unfold insS
    split
    · exact h.1
    · next hm =>
      have hnm : p ∉ l := fun hh => hm ((memS_iff _ _).2 hh)
      have h1 : ∀ x ∈ l.take (idxS l p), compareS x p < 0 := fun x hx => by
        have := takeWhile_all l x hx
        rw [decide_eq_true_iff] at this
        omega
      have hs : (l.take (idxS l p) ++ l.drop (idxS l p)).Pairwise (fun a b => compareS a b < 0) := by rw [List.take_append_drop]; exact h.1
      rw [List.pairwise_append] at hs
      have h2 : ∀ y ∈ l.drop (idxS l p), compareS p y < 0 := by
        cases hd : l.drop (idxS l p) with
        | nil => intro y hy; cases hy
        | cons y t =>
          have hym : y ∈ l := List.mem_of_mem_drop (i := idxS l p) (by rw [hd]; simp)
          have hy1 := takeWhile_head l y t hd
          have hyp : IsPath y := h.2 y hym
          have hy0 : compareS p y < 0 := by
            have e1 := compareS_swap hp hyp
            have e2 := compareT_vals y p
            have e3 : compareS y p ≠ 0 := fun e => hnm (by rw [← (compareS_zero hyp hp).1 e]; exact hym)
            have e4 : ¬ compareS y p = -1 := by simpa using hy1
            omega
          intro z hz
          rcases List.mem_cons.1 hz with rfl | hz
          · exact hy0
          · have hs2 := hs.2.1
            rw [hd, List.pairwise_cons] at hs2
            exact compareS_trans hp hyp (h.2 z (List.mem_of_mem_drop (i := idxS l p) (by rw [hd]; exact List.mem_cons_of_mem _ hz))) hy0 (hs2.1 z hz)
      rw [List.pairwise_append, List.pairwise_cons]
      refine ⟨hs.1, ⟨h2, hs.2.1⟩, fun a ha b hb => ?_⟩
      rcases List.mem_cons.1 hb with rfl | hb
      · exact h1 a ha
      · exact hs.2.2 a ha b hb
  · rcases insS_mem.1 hx with rfl | hx
    · exact hp
    · exact h.2 x hx
theorem foldS_sorted : ∀ (qs l : List ByteArray), SortedP l → (∀ x ∈ qs, IsPath x) → SortedP (qs.foldl insS l)
  | [], l, h, _ => h
  | a :: t, l, h, hq => foldS_sorted t (insS l a) (insS_sorted h (hq a (by simp))) (fun x hx => hq x (List.mem_cons_of_mem _ hx))

/-- The program's paths and the reference's are those of one tree. -/
structure Both (ts want : List ByteArray) : Prop where
  sorted : SortedP want
  mem : ∀ x, x ∈ want ↔ x = rootS ∨ x ∈ ts
  nodup : ts.Nodup
  noroot : rootS ∉ ts
  closed : ∀ q ys, q ∈ ts → namesS q = some ys → ∀ k, 0 < k → k ≤ ys.length → pathS (ys.take k) ∈ ts

theorem Both.paths {ts want : List ByteArray} (h : Both ts want) : ∀ s ∈ ts, IsPath s := fun s hs => h.sorted.2 s ((h.mem s).2 (Or.inr hs))
theorem Both.len {ts want : List ByteArray} (h : Both ts want) : want.length = ts.length + 1 := by
  have h1 : (rootS :: ts).Nodup := List.nodup_cons.2 ⟨h.noroot, h.nodup⟩
  have h2 : want.Perm (rootS :: ts) := (List.perm_ext_iff_of_nodup h.sorted.nodup h1).2 fun a => by rw [h.mem, List.mem_cons]
  rw [h2.length_eq]; rfl
theorem Both.start : Both [] [rootS] := by
  refine ⟨⟨by simp, fun x hx => ?_⟩, fun x => by simp, List.nodup_nil, by simp, fun q ys hq => by cases hq⟩
  rw [List.mem_singleton.1 hx]
  unfold IsPath
  rw [names_rootS]; rfl

theorem anc_mem {p x : ByteArray} {xs : List ByteArray} (hp : namesS p = some xs) : x ∈ ancS p ↔ ∃ k, k < xs.length ∧ x = pathS (xs.take k) := by
  unfold ancS
  rw [hp]
  simp only [List.mem_map, List.mem_range]
  constructor
  · rintro ⟨k, h1, h2⟩; exact ⟨k, h1, h2.symm⟩
  · rintro ⟨k, h1, h2⟩; exact ⟨k, h1, h2.symm⟩

theorem Both.add {ts want : List ByteArray} (h : Both ts want) {p : ByteArray} {xs : List ByteArray} (hp : namesS p = some xs) : Both (addL (fun k => pathS (xs.take k)) xs.length ts) (addS want p) := by
  have hip : IsPath p := by unfold IsPath; rw [hp]; rfl
  have hpe : p = pathS (xs.take xs.length) := by rw [List.take_length]; exact (pathS_names hp).1
  refine ⟨?_, fun x => ?_, nodup_addL _ _ _ h.nodup, fun hr => ?_, fun q ys hq hy k h0 hk => ?_⟩
  · refine insS_sorted (foldS_sorted _ _ h.sorted fun x hx => ?_) hip
    obtain ⟨k, _, rfl⟩ := (anc_mem hp).1 hx
    unfold IsPath
    rw [names_take hp k]; rfl
  · unfold addS
    rw [insS_mem, foldS_mem, anc_mem hp, h.mem, mem_addL]
    constructor
    · rintro (e | ⟨k, h1, h2⟩ | e | e)
      · by_cases h0 : xs.length = 0
        · refine Or.inl ?_
          rw [e, hpe, h0, List.take_zero]; exact pathS_nil
        · exact Or.inr (Or.inl ⟨xs.length, by omega, Nat.le_refl _, by rw [e]; exact hpe⟩)
      · by_cases h0 : k = 0
        · refine Or.inl ?_
          rw [h2, h0, List.take_zero]; exact pathS_nil
        · exact Or.inr (Or.inl ⟨k, by omega, by omega, h2⟩)
      · exact Or.inl e
      · exact Or.inr (Or.inr e)
    · rintro (e | ⟨k, h1, h2, h3⟩ | e)
      · exact Or.inr (Or.inr (Or.inl e))
      · by_cases h0 : k = xs.length
        · refine Or.inl ?_
          rw [h3, h0]; exact hpe.symm
        · exact Or.inr (Or.inl ⟨k, by omega, h3⟩)
      · exact Or.inr (Or.inr (Or.inr e))
  · rcases (mem_addL _ _).1 hr with ⟨k, h1, h2, h3⟩ | hr
    · exact path_ne_root hp k h1 h2 (root_iff.2 h3.symm)
    · exact h.noroot hr
  · rw [mem_addL] at hq ⊢
    rcases hq with ⟨j, h1, h2, h3⟩ | hq
    · refine Or.inl ⟨k, h0, ?_, ?_⟩
      · have e : ys = xs.take j := by
          have := names_take hp j
          rw [← h3, hy] at this
          exact Option.some.inj this
        rw [e, List.length_take] at hk
        omega
      · have e : ys = xs.take j := by
          have := names_take hp j
          rw [← h3, hy] at this
          exact Option.some.inj this
        rw [e, List.length_take] at hk
        rw [e, List.take_take, show min k j = k by omega]
    · exact Or.inr (h.closed q ys hq hy k h0 hk)

/-- A path of a tree has children exactly if another path lies within it. -/
theorem Both.child {ts want : List ByteArray} (h : Both ts want) {p q : ByteArray} (hp : p ∈ ts) (hq : q ∈ ts) (hne : q ≠ p) (hw : withinS q p = true) : ∃ c, c ∈ ts ∧ keepCh p c = true := by
  obtain ⟨xs, hx⟩ := isPath_names (h.paths p hp)
  obtain ⟨ys, hy⟩ := isPath_names (h.paths q hq)
  have hn := (within_names hy hx).1 hw
  have hlt : xs.length < ys.length := by
    rcases Nat.lt_or_ge xs.length ys.length with h1 | h1
    · exact h1
    · have e : ys = xs := by rw [hn.2]; exact (List.take_of_length_le h1).symm
      rw [e] at hy
      exact absurd (namesS_inj hy hx) hne
  refine ⟨pathS (ys.take (xs.length + 1)), h.closed q ys hq hy _ (by omega) (by omega), ?_⟩
  unfold keepCh
  rw [parent_take hy (xs.length + 1) (by omega) (by omega)]
  rw [str_eq, decide_eq_true_iff]
  show pathS (ys.take (xs.length + 1 - 1)) = p
  rw [Nat.add_sub_cancel, ← hn.2]
  exact (pathS_names hx).1.symm

theorem keep_parent {p c : ByteArray} {ys : List ByteArray} (hy : namesS c = some ys) (hp : IsPath p) (hk : keepCh p c = true) : 0 < ys.length ∧ p = pathS (ys.take (ys.length - 1)) := by
  have hce : c = pathS (ys.take ys.length) := by rw [List.take_length]; exact (pathS_names hy).1
  unfold keepCh at hk
  rw [str_eq, decide_eq_true_iff] at hk
  by_cases h0 : ys.length = 0
  · exfalso
    have e : ys = [] := List.eq_nil_of_length_eq_zero h0
    rw [e] at hy
    have : parentS c = none := by unfold parentS; rw [hy]
    rw [this] at hk
    have hk : (⟨#[]⟩ : ByteArray) = p := hk
    unfold IsPath at hp
    rw [← hk] at hp
    exact absurd hp (by decide +kernel)
  · refine ⟨by omega, ?_⟩
    rw [hce, parent_take hy ys.length (by omega) (Nat.le_refl _)] at hk
    exact hk.symm

theorem Both.below {ts want : List ByteArray} (h : Both ts want) {p : ByteArray} (hp : p ∈ ts) : 1 < (belowS want p).length ↔ ∃ c, c ∈ ts ∧ keepCh p c = true := by
  have hpw : p ∈ want := (h.mem p).2 (Or.inr hp)
  have hb : belowS want p = want.filter fun q => withinS q p := if_pos ((memS_iff _ _).2 hpw)
  obtain ⟨xs, hx⟩ := isPath_names (h.paths p hp)
  have hself : withinS p p = true := (within_names hx hx).2 ⟨Nat.le_refl _, List.take_length.symm⟩
  have hpb : p ∈ belowS want p := by rw [hb, List.mem_filter]; exact ⟨hpw, hself⟩
  have hnd : (belowS want p).Nodup := by rw [hb]; exact h.sorted.nodup.filter _
  constructor
  · intro h1
    have : ∃ q, q ∈ belowS want p ∧ q ≠ p := by
      apply Classical.byContradiction
      intro hno
      have hall : ∀ q ∈ belowS want p, q = p := fun q hq => Classical.byContradiction fun hne => hno ⟨q, hq, hne⟩
      match hbl : belowS want p with
      | [] => rw [hbl] at h1; simp at h1
      | [a] => rw [hbl] at h1; simp at h1
      | a :: b :: t =>
        rw [hbl] at hall hnd
        have ea := hall a (by simp)
        have eb := hall b (by simp)
        rw [List.nodup_cons] at hnd
        exact hnd.1 (by rw [ea, eb]; simp)
    obtain ⟨q, hq, hne⟩ := this
    rw [hb, List.mem_filter] at hq
    have hqt : q ∈ ts := by
      rcases (h.mem q).1 hq.1 with e | e
      · exfalso
        have hn := (within_names (by rw [e]; exact names_rootS) hx).1 hq.2
        have e2 : xs = [] := List.eq_nil_of_length_eq_zero (by simpa using hn.1)
        rw [e2] at hx
        exact h.noroot (by rw [namesS_inj names_rootS hx]; exact hp)
      · exact e
    exact h.child hp hqt hne hq.2
  · rintro ⟨c, hc, hk⟩
    obtain ⟨ys, hy⟩ := isPath_names (h.paths c hc)
    obtain ⟨h0, hpe⟩ := keep_parent hy (h.paths p hp) hk
    have hcp : c ≠ p := fun e => by
      have := names_take hy (ys.length - 1)
      rw [← hpe, ← e, hy] at this
      have := congrArg List.length (Option.some.inj this)
      rw [List.length_take] at this
      omega
    have hwi : withinS c p = true := by
      have hxe : namesS p = some (ys.take (ys.length - 1)) := by rw [hpe]; exact names_take hy _
      exact (within_names hy hxe).2 ⟨by rw [List.length_take]; omega, by rw [List.length_take, show min (ys.length - 1) ys.length = ys.length - 1 by omega]⟩
    have hcb : c ∈ belowS want p := by rw [hb, List.mem_filter]; exact ⟨(h.mem c).2 (Or.inr hc), hwi⟩
    match hbl : belowS want p with
    | [] => rw [hbl] at hpb; cases hpb
    | [a] =>
      rw [hbl] at hpb hcb
      exact absurd ((List.mem_singleton.1 hcb).trans (List.mem_singleton.1 hpb).symm) hcp
    | a :: b :: t => simp

theorem Both.rem {ts want : List ByteArray} (h : Both ts want) {p : ByteArray} (hp : p ∈ ts) (hch : ∀ c, c ∈ ts → keepCh p c = false) : Both (remT ts p) (remS want p) := by
  have hpr : p ≠ rootS := fun e => h.noroot (by rw [← e]; exact hp)
  refine ⟨⟨h.sorted.1.filter _, fun x hx => h.sorted.2 x ((List.mem_filter.1 hx).1)⟩, fun x => ?_, h.nodup.filter _, fun hr => h.noroot (mem_remT.1 hr).2, fun q ys hq hy k h0 hk => ?_⟩
  · unfold remS
    rw [List.mem_filter, ne_list, decide_eq_true_iff, h.mem, mem_remT]
    constructor
    · rintro ⟨e | e, hne⟩
      · exact Or.inl e
      · exact Or.inr ⟨hne, e⟩
    · rintro (e | ⟨hne, e⟩)
      · exact ⟨Or.inl e, by rw [e]; exact fun e2 => hpr e2.symm⟩
      · exact ⟨Or.inr e, hne⟩
  · rw [mem_remT] at hq ⊢
    refine ⟨fun e => ?_, h.closed q ys hq.2 hy k h0 hk⟩
    have hxe : namesS p = some (ys.take k) := by rw [← e]; exact names_take hy k
    have hwi : withinS q p = true := (within_names hy hxe).2 ⟨by rw [List.length_take]; omega, by rw [List.length_take, show min k ys.length = k by omega]⟩
    obtain ⟨c, hc, hkc⟩ := h.child hp hq.2 hq.1 hwi
    rw [hch c hc] at hkc
    cases hkc

/-- A removal: its error, for both. -/
theorem Both.error {ts want : List ByteArray} (h : Both ts want) (p : ByteArray) :
    ((namesS p).isSome = false ∧ remE want p = 6) ∨ ((namesS p).isSome = true ∧ p.toList = [47] ∧ remE want p = 1) ∨
    ((namesS p).isSome = true ∧ ¬ p.toList = [47] ∧ memS p ts = false ∧ remE want p = 4) ∨
    ((namesS p).isSome = true ∧ ¬ p.toList = [47] ∧ memS p ts = true ∧ (∃ c, c ∈ ts ∧ keepCh p c = true) ∧ remE want p = 7) ∨
    ((namesS p).isSome = true ∧ ¬ p.toList = [47] ∧ memS p ts = true ∧ (∀ c, c ∈ ts → keepCh p c = false) ∧ remE want p = 0) := by
  unfold remE
  cases hn : (namesS p).isSome with
  | false => exact Or.inl ⟨rfl, if_pos rfl⟩
  | true =>
    rw [if_neg (by decide)]
    by_cases hr : p.toList = [47]
    · exact Or.inr (Or.inl ⟨rfl, hr, if_pos hr⟩)
    · rw [if_neg hr]
      have hme : memS p want = memS p ts := by
        rw [Bool.eq_iff_iff, memS_iff, memS_iff, h.mem]
        exact ⟨fun h2 => h2.resolve_left fun e => hr (root_iff.2 e), Or.inr⟩
      rw [hme]
      cases hm : memS p ts with
      | false => exact Or.inr (Or.inr (Or.inl ⟨rfl, hr, rfl, if_pos rfl⟩))
      | true =>
        rw [if_neg (by decide)]
        have hb := h.below ((memS_iff _ _).1 hm)
        by_cases h1 : 1 < (belowS want p).length
        · exact Or.inr (Or.inr (Or.inr (Or.inl ⟨rfl, hr, rfl, hb.1 h1, if_pos h1⟩)))
        · refine Or.inr (Or.inr (Or.inr (Or.inr ⟨rfl, hr, rfl, fun c hc => ?_, if_neg h1⟩)))
          cases hk : keepCh p c with
          | false => rfl
          | true => exact absurd (hb.2 ⟨c, hc, hk⟩) h1
end Go.Proofs.YtndedphkgkmckaaDoor
/-
  Changes of a tree as they come in: what path each speaks of.
-/
namespace Go.Proofs.YtndedphkgkmckaaDoor
open Go.Joins Go.ChangeShapes Go.WideShapes Go.ChangeAt Go.RowKit Go.Deep
set_option linter.unusedSimpArgs false
set_option linter.unusedVariables false
set_option linter.constructorNameAsVariable false

/-- The path of a change. -/
def opS (raw : ByteArray) (xs : List Nat) : ByteArray := if raw.size = 0 then makeS xs else cutT raw
theorem opS_size (raw : ByteArray) (xs : List Nat) : (opS raw xs).size ≤ 10000 := by
  unfold opS
  split
  · exact path_size (makeS_names xs)
  · have := cutT_size raw; omega

/-- A change in memory: its three cells. -/
structure OpAt (w : World) (g o : Nat) (rm : Bool) (pv : Value) (raw : ByteArray) (xs : List Nat) (B : Nat) : Prop where
  c0 : w.cell? ⟨g, o, none⟩ = some (.bool rm)
  c1 : w.cell? ⟨g, o + 1, none⟩ = some pv
  c2 : w.cell? ⟨g, o + 2, none⟩ = some (.string raw)
  loose : Loose w pv xs B
  byte : ∀ x ∈ xs, x < 256
  size : raw.size ≤ maxLen
theorem OpAt.kept {w w' : World} {g o : Nat} {rm : Bool} {pv : Value} {raw : ByteArray} {xs : List Nat} {B : Nat} (h : OpAt w g o rm pv raw xs B) (hk : Kept (fun _ => False) w w') : OpAt w' g o rm pv raw xs B :=
  ⟨(hk.cell (World.block_lt_of_cell? w _ h.c0) (fun h => h)).trans h.c0, (hk.cell (World.block_lt_of_cell? w _ h.c1) (fun h => h)).trans h.c1, (hk.cell (World.block_lt_of_cell? w _ h.c2) (fun h => h)).trans h.c2,
    h.loose.kept hk (fun _ _ h => h), h.byte, h.size⟩

/-- A list of changes in memory: it is empty, or its elements lie there. -/
def OpsL (w : World) (v : Value) (N B : Nat) : Prop :=
  ((∃ a c, v = .slice a 0 c ∧ (a = none → c = 0) ∧ c ≤ 9223372036854775807) ∧ N = 0) ∨
  ∃ g off cap, v = .slice (some ⟨g, off, none⟩) N cap ∧ (N ≤ cap ∧ cap ≤ 9223372036854775807) ∧ ∀ i, i < N → ∃ rm pv raw xs, OpAt w g (off + i * 3) rm pv raw xs B
theorem OpsL.kept {w w' : World} {v : Value} {N B : Nat} (h : OpsL w v N B) (hk : Kept (fun _ => False) w w') : OpsL w' v N B := by
  rcases h with h | ⟨g, off, cap, e, hc, h⟩
  · exact Or.inl h
  · exact Or.inr ⟨g, off, cap, e, hc, fun i hi => by
      obtain ⟨rm, pv, raw, xs, ho⟩ := h i hi
      exact ⟨rm, pv, raw, xs, ho.kept hk⟩⟩
theorem OpsL.cut {w : World} {a : Option Addr} {c N B : Nat} (h : OpsL w (.slice a N c) N B) (K : Nat) (hK : K ≤ N) : OpsL w (.slice a K c) K B := by
  rcases h with ⟨⟨a', c', h, hc⟩, rfl⟩ | ⟨g, off, cap, h, hc, h3⟩
  · obtain rfl : K = 0 := by omega
    cases h
    exact Or.inl ⟨⟨_, _, rfl, hc⟩, rfl⟩
  · cases h
    exact Or.inr ⟨g, off, _, rfl, ⟨by omega, hc.2⟩, fun i hi => h3 i (by omega)⟩
theorem OpsL.form {w : World} {v : Value} {N B : Nat} (h : OpsL w v N B) : ∃ a c, v = .slice a N c ∧ N ≤ c ∧ c ≤ 9223372036854775807 := by
  rcases h with ⟨⟨a, c, rfl, _, hc⟩, rfl⟩ | ⟨g, off, cap, rfl, hc, h⟩
  · exact ⟨a, c, rfl, Nat.zero_le _, hc⟩
  · exact ⟨_, _, rfl, hc.1, hc.2⟩
theorem OpsL.at {w : World} {a : Option Addr} {c N B k : Nat} (h : OpsL w (.slice a N c) N B) (hk : k < N) :
    ∃ g off rm pv raw xs, a = some ⟨g, off, none⟩ ∧ OpAt w g (off + k * 3) rm pv raw xs B := by
  rcases h with ⟨_, rfl⟩ | ⟨g, off, cap, h, _, h3⟩
  · omega
  · cases h
    obtain ⟨rm, pv, raw, xs, ho⟩ := h3 k hk
    exact ⟨g, off, rm, pv, raw, xs, rfl, ho⟩

theorem cellsOp : Tryd.prog.cellsOf 39 = 3 := by kernel_rfl
theorem cellsBl : Tryd.prog.cellsOf 4 = 1 := by kernel_rfl
theorem cellsSt : Tryd.prog.cellsOf 9 = 1 := by kernel_rfl
theorem add_plainP (g off n : Nat) : (⟨g, off, none⟩ : Addr).add n = ⟨g, off + n, none⟩ := by unfold Addr.add; split <;> simp_all

set_option maxRecDepth 100000 in
theorem ops_of {H : Type} {enc : TypeId × Value → H} {W : World} {a : Option Addr} {len cap : Nat} {y : DataW H × List MemPlace} {fuel : Nat} (h : DataW.trod enc Tryd.prog W 0 (fun _ => true) true fuel 22 [.slice a len cap] = some y) :
    OpsL W (.slice a len cap) len W.heap.size := by
  rcases open_slice Tryd.underlying22 h with ⟨hcs, _⟩ | ⟨x, l, c, m, n, D, Pl, hcs, _, hl, hm, hmm, _, hi⟩
  · injection hcs with hcs
    injection hcs with e1 e2 e3
    subst e1 e2 e3
    exact Or.inl ⟨⟨_, _, rfl, fun _ => rfl, by omega⟩, rfl⟩
  · injection hcs with hcs
    injection hcs with e1 e2 e3
    subst e1 e2 e3
    simp only [if_true] at hmm
    subst hmm
    have hel : ∀ i, i < len → ∃ x0 x1 x2 fu y0 y1 y2, W.cell? ((x.add (i * 3)).add 0) = some x0 ∧ W.cell? ((x.add (i * 3)).add 1) = some x1 ∧ W.cell? ((x.add (i * 3)).add 2) = some x2 ∧
        DataW.trod enc Tryd.prog W 0 (fun _ => true) true fu 4 [x0] = some y0 ∧ DataW.trod enc Tryd.prog W 0 (fun _ => true) true fu 37 [x1] = some y1 ∧ DataW.trod enc Tryd.prog W 0 (fun _ => true) true fu 9 [x2] = some y2 := by
      intro i hil
      obtain ⟨cs', hc, ht⟩ := hi i (by omega)
      rw [cellsOp] at hc
      obtain ⟨_, hcl, hat⟩ := World.cells?_some hc
      obtain ⟨y0, y1, y2, fu, _, hlen, t0, t1, t2⟩ := trod_struct3 Tryd.underlying39 ht
      rw [cellsOp] at hlen
      match cs', hlen with
      | [x0, x1, x2], _ =>
        refine ⟨x0, x1, x2, fu, y0, y1, y2, hat 0 (by omega), hat 1 (by omega), hat 2 (by omega), ?_, ?_, ?_⟩
        · simpa [cellsBl] using t0
        · simpa [cellsBs] using t1
        · simpa [cellsSt] using t2
    by_cases h0 : len = 0
    · subst h0
      exact Or.inl ⟨⟨_, _, rfl, (fun h => by cases h), (by unfold maxLen at hm; omega)⟩, rfl⟩
    · obtain ⟨x0, _, _, _, _, _, _, hx0, _⟩ := hel 0 (by omega)
      rw [show (x.add (0 * 3)).add 0 = x from rfl] at hx0
      have hs := World.cell?_spot hx0
      obtain ⟨g, off, spot⟩ := x
      simp only at hs
      subst hs
      refine Or.inr ⟨g, off, _, rfl, ⟨hl, by unfold maxLen at hm; omega⟩, fun i hil => ?_⟩
      obtain ⟨x0, x1, x2, fu, y0, y1, y2, c0, c1, c2, t0, t1, t2⟩ := hel i hil
      rw [add_plainP, add_plainP] at c0 c1 c2
      obtain ⟨b, e0, _⟩ := DataW.trod_bool Tryd.underlying4 t0
      obtain ⟨s, e2, _, hsz⟩ := DataW.trod_string Tryd.underlying9 t2
      injection e0 with e0; injection e2 with e2
      subst e0 e2
      obtain ⟨xs, hlo, hby⟩ := loose_of t1
      exact ⟨b, x1, s, xs, c0, c1, c2, hlo, hby, hsz⟩

set_option maxRecDepth 100000 in
theorem ops_in {H : Type} {enc : TypeId × Value → H} {W : World} {base : Nat} {v : Value} {d : DataW H} {p : List MemPlace} (o : Value.okWide Tryd.prog W .any base 22 v) (h : DataW.Trod enc Tryd.prog W 0 (fun _ => true) true 22 v d p) :
    ∃ a N c, v = .slice a N c ∧ OpsL W (.slice a N c) N W.heap.size := by
  obtain ⟨a, len, cap, rfl⟩ := okWide_slice Tryd.underlying22 o
  obtain ⟨fuel, h⟩ := h
  simp [Value.cells] at h
  exact ⟨a, len, cap, rfl, ops_of h⟩

set_option maxRecDepth 100000 in
set_option maxHeartbeats 800000 in
theorem of_op (rm : Bool) (pv : Value) (raw : ByteArray) (xs : List Nat) (B : Nat) (w : World) (h : Loose w pv xs B) (hb : ∀ x ∈ xs, x < 256) (hs : raw.size ≤ maxLen) :
    Calls Tryd.prog 20 #[.agg #[.bool rm, pv, .string raw]] w fun e w' => e = .returned (.string (opS raw xs)) ∧ Kept (fun _ => False) w w' := by
  have hk := Kept.alloc (fun _ => False) w (.cells #[.bool rm, pv, .string raw] 39)
  have HK := Lib.hid hk
  unfold opS
  by_cases h0 : raw.size = 0
  · rw [if_pos h0]
    have hl : raw.data.toList = [] := by
      have e : raw.size = raw.data.toList.length := rfl
      exact List.eq_nil_of_length_eq_zero (by omega)
    have hl2 : raw.toList = [] := by rw [ByteArray.toList_eq]; exact hl
    have hne : (raw.toList != []) = false := by rw [hl2]; rfl
    have HM := Lib.hid (make_any pv xs B _ (h.kept hk (fun _ _ h => h)) hb h.le)
    generalize makeS xs = P at HM ⊢
    clear h hb hs hk h0 hl
    go_enter Tryd.func20, Tryd.ntmps20
    go_wp2_with fail
    refine HM.out.mono ?_
    rintro e w1 ⟨rfl, k1⟩
    have K1 := Lib.hid (HK.out.then k1); clear k1
    go_wp2_with fail
    go_ret
    exact ⟨rfl, K1.out⟩
  · rw [if_neg h0]
    have hl : ¬ raw.toList = [] := fun e => h0 (by
      rw [ByteArray.toList_eq] at e
      have e2 : raw.size = raw.data.toList.length := rfl
      rw [e2, e]; rfl)
    have hemp : raw.toList.isEmpty = false := by
      cases he : raw.toList.isEmpty with
      | false => rfl
      | true => exact absurd (List.isEmpty_iff.1 he) hl
    have hne : (raw.toList != []) = true := by simpa [bne] using hl
    have heq : (raw.toList == []) = false := beq_eq_false_iff_ne.2 hl
    have HC := Lib.hid (fun W => cut_any raw hs W)
    generalize cutT raw = P at HC ⊢
    clear h hb hs hk h0
    go_enter Tryd.func20, Tryd.ntmps20
    go_wp2_with fail
    refine (HC.out _).mono ?_
    rintro e w1 ⟨rfl, rfl⟩
    go_wp2_with fail
    go_ret
    exact ⟨rfl, HK.out⟩
end Go.Proofs.YtndedphkgkmckaaDoor
/-
  arbaclaw07.play: a tree after changes, the program's and the reference's.
-/
namespace Go.Proofs.YtndedphkgkmckaaDoor
open Go.RowKit
set_option linter.unusedSimpArgs false
set_option linter.unusedVariables false

/-- One tree in memory, the program's and the reference's. -/
structure TwoT (w wr : World) (g : Nat) (mv v : Value) (ts want : List ByteArray) (n : Nat) : Prop where
  tree : TreeL wr g mv ts
  row : Strs wr v want
  both : Both ts want
  len : ts.length ≤ n
  kept : Kept (fun _ => False) w wr
theorem TwoT.on {w a b : World} {g : Nat} {mv v : Value} {ts want : List ByteArray} {n m : Nat} (h : TwoT w a g mv v ts want n) (hk : Kept (fun _ => False) a b) (hm : n ≤ m) : TwoT w b g mv v ts want m :=
  ⟨h.tree.stay hk, h.row.kept hk (fun _ _ h => h), h.both, Nat.le_trans h.len hm, h.kept.then hk⟩
theorem TwoT.small {w a : World} {g : Nat} {mv v : Value} {ts want : List ByteArray} {n : Nat} (h : TwoT w a g mv v ts want n) : ∀ x ∈ want, x.size ≤ 100000 := fun x hx => by
  obtain ⟨l, hl⟩ := isPath_names (h.both.sorted.2 x hx)
  have := path_size hl; omega

set_option maxRecDepth 100000 in
set_option maxHeartbeats 6400000 in
theorem play_at (a0 : Option Addr) (N c0 B : Nat) (w : World) (h : OpsL w (.slice a0 N c0) N B) :
    Calls Tryd.prog 8 #[.slice a0 N c0] w fun e w' => ∃ g mv v ts want, e = .returned (.tuple #[.pointer (some ⟨g, 0, none⟩), v]) ∧ TwoT w w' g mv v ts want 112 := by
  obtain ⟨_, _, he, hN, hc0⟩ := h.form
  cases he
  obtain ⟨K, hK⟩ : ∃ K, K = min N 14 := ⟨_, rfl⟩
  have hmin : min (N : Int) 14 = (K : Int) := by omega
  have hK0 : (0 : Int) ≤ (K : Int) := by omega
  have hK1 : (K : Int) ≤ (N : Int) := by omega
  have hK2 : (K : Int) ≤ (c0 : Int) := by omega
  have hK3 : K ≤ c0 := by omega
  have hK4 : K ≤ N := by omega
  have hK5 : K ≤ 14 := by omega
  have HLK := Lib.hid (h.cut K hK4)
  clear h hK
  go_enter Tryd.func8, Tryd.ntmps8
  go_wp2_with fail
  refine (newTreeL_any w).mono ?_
  rintro e w1 ⟨g, rfl, ht, hg, k1⟩
  have hk2 := Kept.alloc (fun _ => False) w1 (.cells #[.string ⟨#[47]⟩] 9)
  have HT0 := Lib.hid ((⟨ht.stay hk2, strs_new w1 #[.string ⟨#[47]⟩] 9 1 [rootS] rfl rfl (by unfold maxLen; omega), Both.start, Nat.zero_le _, k1.then hk2⟩ : TwoT w (w1.alloc (.cells #[.string ⟨#[47]⟩] 9)) g (.map none) (.slice (some ⟨w1.heap.size, 0, none⟩) 1 1) [] [rootS] 0))
  clear ht hg k1 hk2
  go_wp2_with fail
  go_loopw [4, 5, 21] (fun tv lv iv wr => ∃ (k g : Nat), k ≤ K ∧ iv = .int .i64 k ∧ tv = .pointer (some ⟨g, 0, none⟩) ∧ Hid (∃ mv ts want, TwoT w wr g mv lv ts want (8 * k))) (fun _ _ iv _ => K - (intOf iv).toNat)
  case atStart => exact ⟨0, g, by omega, rfl, rfl, ⟨_, _, _, HT0.out⟩⟩
  case round =>
    obtain ⟨k, g, hk, rfl, rfl, htw⟩ := hrel
    obtain ⟨mv, ts, want, htw⟩ := htw.out
    have HTW := Lib.hid htw
    have l0 : (0 : Int) ≤ (k : Int) := by omega
    by_cases hlt : k < K
    · have l1 : (k : Int) < (K : Int) := by omega
      obtain ⟨ga, off, rm, pv, raw, xs, ha0, hop⟩ := (HLK.out.kept htw.kept).at (k := k) hlt
      subst ha0
      obtain ⟨c0', c1', c2', hlo, hby, hsz⟩ := hop
      obtain ⟨pa, pc, hpf⟩ := hlo.form
      subst hpf
      generalize xs.length = pn at c1' hlo
      have hkx := Kept.alloc (fun _ => False) wr (.cells #[.bool rm, .slice pa pn pc, .string raw] 39)
      have HOF := Lib.hid (of_op rm (.slice pa pn pc) raw xs _ _ (hlo.kept hkx (fun _ _ h => h)) hby hsz)
      have hps := opS_size raw xs
      generalize opS raw xs = p at HOF hps
      have HTX := Lib.hid (htw.on hkx (Nat.le_refl _))
      clear hlo hby hsz hkx htw HTW
      cases rm with
      | true =>
        go_wp2_with fail
        have hcell : ∀ W, Kept (fun _ => False) (wr.alloc (.cells #[.bool true, .slice pa pn pc, .string raw] 39)) W → W.cell? ⟨wr.heap.size, 0, none⟩ = some (.bool true) := fun W hk => (hk.cell (p := ⟨wr.heap.size, 0, none⟩) (by simp) (fun h => h)).trans (by go_simp)
        generalize wr.alloc (.cells #[.bool true, .slice pa pn pc, .string raw] 39) = wx at HOF HTX hcell ⊢
        generalize wr.heap.size = bx at hcell ⊢
        have HCX := Lib.hid hcell
        clear hcell c0' c1' c2'
        refine HOF.out.mono ?_
        rintro e w3 ⟨rfl, k3⟩
        have HT3 := Lib.hid (HTX.out.on k3 (Nat.le_refl _))
        have hc3 := HCX.out w3 k3
        clear k3 HTX HOF
        have hbl := HT3.out.both.len
        have hln := HT3.out.len
        have HREM := rremove_any _ want p w3 HT3.out.row (by omega) (by omega) HT3.out.small
        have hpath := HT3.out.both.paths
        rcases HT3.out.both.error p with ⟨q1, hE⟩ | ⟨q1, q2, hE⟩ | ⟨q1, q2, q3, hE⟩ | ⟨q1, q2, q3, q4, hE⟩ | ⟨q1, q2, q3, q4, hE⟩
        · have HB := fun W (hk : Kept (fun _ => False) w3 W) => rremove_any _ want p W (HT3.out.row.kept hk (fun _ _ h => h)) (by omega) (by omega) HT3.out.small
          rw [hE] at HB
          have HB := Lib.hid HB
          clear hE
          have HA := Lib.hid (remove_form w3 g p (by omega) q1)
          clear q1 hbl hln hpath HREM
          go_wp2_with fail
          refine HA.out.mono ?_
          rintro e w4 ⟨rfl, k4⟩
          have K4 := Lib.hid k4; clear k4
          go_wp2_with fail
          refine (HB.out _ K4.out).mono ?_
          rintro e w5 ⟨v5, rfl, _, k5⟩
          have HE : Hid (∃ mv ts want, TwoT w w5 g mv u5 ts want (8 * (k + 1))) := ⟨mv, ts, want, HT3.out.on (K4.out.then k5) (by omega)⟩
          clear k5
          go_wp2_with fail
          go_roundw
          case rel => first | exact ⟨k + 1, g, by omega, by go_num, rfl, HE⟩ | ((repeat apply Exists.intro); exact ⟨⟨k + 1, g, by omega, by go_num, rfl, HE⟩, rfl⟩)
          case measure => simp [intOf]; omega
        · have HB := fun W (hk : Kept (fun _ => False) w3 W) => rremove_any _ want p W (HT3.out.row.kept hk (fun _ _ h => h)) (by omega) (by omega) HT3.out.small
          rw [hE] at HB
          have HB := Lib.hid HB
          clear hE
          have HA := Lib.hid (remove_root w3 g p (by omega) q1 q2)
          clear q1 q2 hbl hln hpath HREM
          go_wp2_with fail
          refine HA.out.mono ?_
          rintro e w4 ⟨rfl, k4⟩
          have K4 := Lib.hid k4; clear k4
          go_wp2_with fail
          refine (HB.out _ K4.out).mono ?_
          rintro e w5 ⟨v5, rfl, _, k5⟩
          have HE : Hid (∃ mv ts want, TwoT w w5 g mv u5 ts want (8 * (k + 1))) := ⟨mv, ts, want, HT3.out.on (K4.out.then k5) (by omega)⟩
          clear k5
          go_wp2_with fail
          go_roundw
          case rel => first | exact ⟨k + 1, g, by omega, by go_num, rfl, HE⟩ | ((repeat apply Exists.intro); exact ⟨⟨k + 1, g, by omega, by go_num, rfl, HE⟩, rfl⟩)
          case measure => simp [intOf]; omega
        · have HB := fun W (hk : Kept (fun _ => False) w3 W) => rremove_any _ want p W (HT3.out.row.kept hk (fun _ _ h => h)) (by omega) (by omega) HT3.out.small
          rw [hE] at HB
          have HB := Lib.hid HB
          clear hE
          have HA := Lib.hid (remove_none w3 g mv ts p HT3.out.tree (by omega) q1 q2 q3)
          clear q1 q2 q3 hbl hln hpath HREM
          go_wp2_with fail
          refine HA.out.mono ?_
          rintro e w4 ⟨rfl, k4⟩
          have K4 := Lib.hid k4; clear k4
          go_wp2_with fail
          refine (HB.out _ K4.out).mono ?_
          rintro e w5 ⟨v5, rfl, _, k5⟩
          have HE : Hid (∃ mv ts want, TwoT w w5 g mv u5 ts want (8 * (k + 1))) := ⟨mv, ts, want, HT3.out.on (K4.out.then k5) (by omega)⟩
          clear k5
          go_wp2_with fail
          go_roundw
          case rel => first | exact ⟨k + 1, g, by omega, by go_num, rfl, HE⟩ | ((repeat apply Exists.intro); exact ⟨⟨k + 1, g, by omega, by go_num, rfl, HE⟩, rfl⟩)
          case measure => simp [intOf]; omega
        · have HB := fun W (hk : Kept (fun _ => False) w3 W) => rremove_any _ want p W (HT3.out.row.kept hk (fun _ _ h => h)) (by omega) (by omega) HT3.out.small
          rw [hE] at HB
          have HB := Lib.hid HB
          clear hE
          have HA := Lib.hid (remove_state w3 g mv ts p HT3.out.tree hpath (by omega) (by omega) q1 q2 q3 q4)
          clear q1 q2 q3 q4 hbl hln hpath HREM
          go_wp2_with fail
          refine HA.out.mono ?_
          rintro e w4 ⟨rfl, k4⟩
          have K4 := Lib.hid k4; clear k4
          go_wp2_with fail
          refine (HB.out _ K4.out).mono ?_
          rintro e w5 ⟨v5, rfl, _, k5⟩
          have HE : Hid (∃ mv ts want, TwoT w w5 g mv u5 ts want (8 * (k + 1))) := ⟨mv, ts, want, HT3.out.on (K4.out.then k5) (by omega)⟩
          clear k5
          go_wp2_with fail
          go_roundw
          case rel => first | exact ⟨k + 1, g, by omega, by go_num, rfl, HE⟩ | ((repeat apply Exists.intro); exact ⟨⟨k + 1, g, by omega, by go_num, rfl, HE⟩, rfl⟩)
          case measure => simp [intOf]; omega
        · have HB := fun W (hk : Kept (fun _ => False) w3 W) => rremove_any _ want p W (HT3.out.row.kept hk (fun _ _ h => h)) (by omega) (by omega) HT3.out.small
          rw [hE] at HB
          have HB := Lib.hid HB
          clear hE
          have HA := Lib.hid (remove_ok w3 g mv ts p HT3.out.tree hpath HT3.out.both.nodup (by omega) (by omega) q1 q2 q3 q4)
          have HBO := Lib.hid (HT3.out.both.rem ((memS_iff _ _).1 q3) q4)
          have HLE : Hid ((remT ts p).length ≤ 8 * (k + 1)) := by
            have := length_remT HT3.out.both.nodup ((memS_iff _ _).1 q3)
            show _ ≤ _; omega
          generalize remT ts p = ts' at HA HBO HLE
          generalize remS want p = want' at HB HBO
          clear q1 q2 q3 q4 hbl hln hpath HREM
          go_wp2_with fail
          refine HA.out.mono ?_
          rintro e w4 ⟨g', m', rfl, ht4, _, _, _, k4⟩
          have K4 := Lib.hid k4; have HT4 := Lib.hid ht4; clear k4 ht4
          go_wp2_with fail
          refine (HB.out _ K4.out).mono ?_
          rintro e w5 ⟨v5, rfl, hs5, k5⟩
          have HE : Hid (∃ mv ts want, TwoT w w5 g' mv v5 ts want (8 * (k + 1))) := ⟨_, ts', want', ⟨HT4.out.stay k5, (by first | exact hs5 rfl | exact hs5 trivial), HBO.out, HLE.out, (HT3.out.kept.then K4.out).then k5⟩⟩
          clear k5 hs5
          go_wp2_with fail
          go_roundw
          case rel => first | exact ⟨k + 1, g', by omega, by go_num, rfl, HE⟩ | ((repeat apply Exists.intro); exact ⟨⟨k + 1, g', by omega, by go_num, rfl, HE⟩, rfl⟩)
          case measure => simp [intOf]; omega
      | false =>
        go_wp2_with fail
        have hcell : ∀ W, Kept (fun _ => False) (wr.alloc (.cells #[.bool false, .slice pa pn pc, .string raw] 39)) W → W.cell? ⟨wr.heap.size, 0, none⟩ = some (.bool false) := fun W hk => (hk.cell (p := ⟨wr.heap.size, 0, none⟩) (by simp) (fun h => h)).trans (by go_simp)
        generalize wr.alloc (.cells #[.bool false, .slice pa pn pc, .string raw] 39) = wx at HOF HTX hcell ⊢
        generalize wr.heap.size = bx at hcell ⊢
        have HCX := Lib.hid hcell
        clear hcell c0' c1' c2'
        refine HOF.out.mono ?_
        rintro e w3 ⟨rfl, k3⟩
        have HT3 := Lib.hid (HTX.out.on k3 (Nat.le_refl _))
        have hc3 := HCX.out w3 k3
        clear k3 HTX HOF
        have hbl := HT3.out.both.len
        have hln := HT3.out.len
        cases hn : namesS p with
        | none =>
          have HA := Lib.hid (add_no w3 g p (by omega) hn)
          have HB := Lib.hid (fun W (hk : Kept (fun _ => False) w3 W) => radd_no _ want p W (HT3.out.row.kept hk (fun _ _ h => h)) (by omega) hn)
          clear hn hbl hln
          go_wp2_with fail
          refine HA.out.mono ?_
          rintro e w4 ⟨rfl, k4⟩
          have K4 := Lib.hid k4; clear k4
          go_wp2_with fail
          refine (HB.out _ K4.out).mono ?_
          rintro e w5 ⟨rfl, k5⟩
          have HE : Hid (∃ mv ts want, TwoT w w5 g mv u5 ts want (8 * (k + 1))) := ⟨mv, ts, want, HT3.out.on (K4.out.then k5) (by omega)⟩
          clear k5
          go_wp2_with fail
          go_roundw
          case rel => first | exact ⟨k + 1, g, by omega, by go_num, rfl, HE⟩ | ((repeat apply Exists.intro); exact ⟨⟨k + 1, g, by omega, by go_num, rfl, HE⟩, rfl⟩)
          case measure => simp [intOf]; omega
        | some ys =>
          have HA := Lib.hid (add_ok w3 g mv ts p ys HT3.out.tree (by omega) hn (by omega))
          have HB := Lib.hid (fun W (hk : Kept (fun _ => False) w3 W) => radd_ok _ want p ys W (HT3.out.row.kept hk (fun _ _ h => h)) (by omega) hn (by omega) (by omega) HT3.out.small)
          have HBO := Lib.hid (HT3.out.both.add hn)
          have HLE : Hid ((addL (fun k => pathS (ys.take k)) ys.length ts).length ≤ 8 * (k + 1)) := by
            have h1 := length_addL (fun k => pathS (ys.take k)) ys.length ts
            have h2 := (pathS_names hn).2.2
            show _ ≤ _; omega
          generalize addL (fun k => pathS (ys.take k)) ys.length ts = ts' at HA HBO HLE
          generalize addS want p = want' at HB HBO
          clear hn hbl hln
          go_wp2_with fail
          refine HA.out.mono ?_
          rintro e w4 ⟨g', m', rfl, ht4, _, _, _, k4⟩
          have K4 := Lib.hid k4; have HT4 := Lib.hid ht4; clear k4 ht4
          go_wp2_with fail
          refine (HB.out _ K4.out).mono ?_
          rintro e w5 ⟨v5, rfl, hs5, k5⟩
          have HE : Hid (∃ mv ts want, TwoT w w5 g' mv v5 ts want (8 * (k + 1))) := ⟨_, ts', want', ⟨HT4.out.stay k5, hs5, HBO.out, HLE.out, (HT3.out.kept.then K4.out).then k5⟩⟩
          clear k5 hs5
          go_wp2_with fail
          go_roundw
          case rel => first | exact ⟨k + 1, g', by omega, by go_num, rfl, HE⟩ | ((repeat apply Exists.intro); exact ⟨⟨k + 1, g', by omega, by go_num, rfl, HE⟩, rfl⟩)
          case measure => simp [intOf]; omega
    · obtain rfl : k = K := by omega
      have HE : Hid (TwoT w wr g mv u5 ts want 112) := htw.on (Kept.refl _ _) (by omega)
      clear htw
      go_wp2_with fail
      go_ret2
      exact ⟨g, mv, _, ts, want, rfl, HE.out⟩

theorem play_any (v : Value) (N B : Nat) (w : World) (h : OpsL w v N B) :
    Calls Tryd.prog 8 #[v] w fun e w' => ∃ g mv v ts want, e = .returned (.tuple #[.pointer (some ⟨g, 0, none⟩), v]) ∧ TwoT w w' g mv v ts want 112 := by
  obtain ⟨a, c, rfl, _, _⟩ := h.form
  exact play_at a N c B w h
end Go.Proofs.YtndedphkgkmckaaDoor
/-
  Trees of paths: what lies below the root, the path above, and how many children there are.
-/
namespace Go.Proofs.YtndedphkgkmckaaDoor
open Go.RowKit
set_option linter.unusedSimpArgs false
set_option linter.unusedVariables false

theorem within_root {x : ByteArray} (hx : IsPath x) : withinS x rootS = true := by
  obtain ⟨xs, h⟩ := isPath_names hx
  exact (within_names h names_rootS).2 ⟨Nat.zero_le _, by simp⟩
theorem isPath_rootS : IsPath rootS := by unfold IsPath; rw [names_rootS]; rfl
theorem within_less {p x : ByteArray} (hp : IsPath p) (hx : IsPath x) (hw : withinS x p = true) (hne : x ≠ p) : compareS p x < 0 := by
  obtain ⟨d, hF, _⟩ := ordF hp hx hp
  have h1 := hF.up hw
  have h2 : compareS p x ≠ 0 := fun e => hne ((compareS_zero hp hx).1 e).symm
  omega

/-- What lies below a path, in order: as the reference has it. -/
theorem Both.below_list {ts want : List ByteArray} (h : Both ts want) {p : ByteArray} (hp : p ∈ want) {r : List ByteArray} (hr : SortedP r) (hm : ∀ x, x ∈ r ↔ x ∈ ts ∧ keepBe p x = true) : p :: r = belowS want p := by
  have hip := h.sorted.2 p hp
  obtain ⟨xs, hx⟩ := isPath_names hip
  have hself : withinS p p = true := (within_names hx hx).2 ⟨Nat.le_refl _, List.take_length.symm⟩
  have hk : ∀ x, keepBe p x = true ↔ x ≠ p ∧ withinS x p = true := fun x => by
    unfold keepBe
    rw [Bool.and_eq_true, ne_list, decide_eq_true_iff]
  have hb : belowS want p = want.filter fun q => withinS q p := if_pos ((memS_iff _ _).2 hp)
  rw [hb]
  refine sortedP_unique ⟨?_, fun x hx => ?_⟩ ⟨h.sorted.1.filter _, fun x hx => h.sorted.2 x (List.mem_filter.1 hx).1⟩ fun x => ?_
  · rw [List.pairwise_cons]
    refine ⟨fun x hx => ?_, hr.1⟩
    have h1 := (hm x).1 hx
    have h2 := (hk x).1 h1.2
    exact within_less hip (hr.2 x hx) h2.2 h2.1
  · rcases List.mem_cons.1 hx with rfl | hx
    · exact hip
    · exact hr.2 x hx
  · rw [List.mem_cons, hm, List.mem_filter, h.mem, hk]
    constructor
    · rintro (rfl | ⟨h1, h2, h3⟩)
      · exact ⟨(h.mem x).1 hp, hself⟩
      · exact ⟨Or.inr h1, h3⟩
    · rintro ⟨h1 | h1, h2⟩
      · refine Or.inl ?_
        subst h1
        have hn := (within_names names_rootS hx).1 h2
        have e : xs = [] := List.eq_nil_of_length_eq_zero (by simpa using hn.1)
        rw [e] at hx
        exact namesS_inj names_rootS hx
      · by_cases e : x = p
        · exact Or.inl e
        · exact Or.inr ⟨h1, e, h2⟩
theorem Both.below_all {ts want : List ByteArray} (h : Both ts want) : belowS want rootS = want := by
  have hp : rootS ∈ want := (h.mem _).2 (Or.inl rfl)
  have hb : belowS want rootS = want.filter fun q => withinS q rootS := if_pos ((memS_iff _ _).2 hp)
  rw [hb, List.filter_eq_self]
  exact fun x hx => within_root (h.sorted.2 x hx)

theorem parent_root : parentS rootS = none := by unfold parentS; rw [names_rootS]
/-- The path above one of a tree: it is in the tree, too. -/
theorem Both.parent {ts want : List ByteArray} (h : Both ts want) {x : ByteArray} (hx : x ∈ ts) : ∃ up, parentS x = some up ∧ hasS ts up = true ∧ up ∈ want ∧ keepCh up x = true ∧ ∀ p, keepCh p x = true → p = up := by
  obtain ⟨ys, hy⟩ := isPath_names (h.paths x hx)
  have hce : x = pathS (ys.take ys.length) := by rw [List.take_length]; exact (pathS_names hy).1
  have h0 : 0 < ys.length := by
    rcases Nat.eq_zero_or_pos ys.length with e | e
    · exfalso
      have e2 : ys = [] := List.eq_nil_of_length_eq_zero e
      rw [e2] at hy
      exact h.noroot (by rw [namesS_inj names_rootS hy]; exact hx)
    · exact e
  have hpa : parentS x = some (pathS (ys.take (ys.length - 1))) := by
    conv => lhs; rw [hce]
    exact parent_take hy ys.length h0 (Nat.le_refl _)
  have hup : pathS (ys.take (ys.length - 1)) = rootS ∨ pathS (ys.take (ys.length - 1)) ∈ ts := by
    by_cases h1 : ys.length = 1
    · refine Or.inl ?_
      rw [h1]; simp [pathS_nil]
    · exact Or.inr (h.closed x ys hx hy _ (by omega) (by omega))
  refine ⟨_, hpa, ?_, (h.mem _).2 hup, ?_, fun p hk => ?_⟩
  · unfold hasS
    rcases hup with e | e
    · rw [root_iff.2 e]; rfl
    · rw [(memS_iff _ _).2 e]; simp
  · unfold keepCh
    rw [hpa, str_eq]; simp
  · unfold keepCh at hk
    rw [hpa, str_eq, decide_eq_true_iff] at hk
    exact hk.symm

/-- How many children each of some paths has, together. -/
def sumC (L ts : List ByteArray) : Nat := (L.map fun p => (ts.filter (keepCh p)).length).sum
theorem sumC_nil (L : List ByteArray) : sumC L [] = 0 := by
  induction L with
  | nil => rfl
  | cons p t ih => simp only [sumC, List.map_cons, List.filter_nil, List.length_nil, List.sum_cons] at ih ⊢; omega
theorem sumC_cons (L : List ByteArray) (x : ByteArray) (ts : List ByteArray) : sumC L (x :: ts) = sumC L ts + (L.filter fun p => keepCh p x).length := by
  induction L with
  | nil => rfl
  | cons p t ih =>
    simp only [sumC, List.map_cons, List.sum_cons, List.filter_cons] at ih ⊢
    cases hk : keepCh p x with
    | true => simp only [if_true, List.length_cons]; omega
    | false => simp only [Bool.false_eq_true, if_false]; omega
theorem filter_one {f : ByteArray → Bool} {u : ByteArray} : ∀ {L : List ByteArray}, L.Nodup → u ∈ L → f u = true → (∀ p, f p = true → p = u) → (L.filter f).length = 1
  | [], _, hm, _, _ => by cases hm
  | a :: t, hn, hm, hu, hf => by
    rw [List.nodup_cons] at hn
    by_cases e : a = u
    · subst e
      have h2 : t.filter f = [] := by
        rw [List.filter_eq_nil_iff]
        intro b hb hfb
        exact hn.1 (by rw [← hf b hfb]; exact hb)
      rw [List.filter_cons, if_pos hu, h2]; rfl
    · have hmt : u ∈ t := (List.mem_cons.1 hm).resolve_left fun e2 => e e2.symm
      have hfa : ¬ f a = true := fun h => e (hf a h)
      rw [List.filter_cons, if_neg hfa]
      exact filter_one hn.2 hmt hu hf
theorem sumC_all {L : List ByteArray} : ∀ {ts : List ByteArray}, (∀ x ∈ ts, (L.filter fun p => keepCh p x).length = 1) → sumC L ts = ts.length
  | [], _ => sumC_nil L
  | x :: t, h => by
    rw [sumC_cons, sumC_all (fun y hy => h y (List.mem_cons_of_mem _ hy)), h x (by simp)]; rfl
theorem Both.sum {ts want : List ByteArray} (h : Both ts want) : sumC want ts = ts.length := by
  refine sumC_all fun x hx => ?_
  obtain ⟨up, _, _, h3, h4, h5⟩ := h.parent hx
  exact filter_one h.sorted.nodup h3 h4 h5
theorem sumC_take (L ts : List ByteArray) (k : Nat) (hk : k < L.length) : sumC (L.take (k + 1)) ts = sumC (L.take k) ts + (ts.filter (keepCh (L.getD k ⟨#[]⟩))).length := by
  unfold sumC
  rw [List.take_succ_eq_append_getElem hk, List.map_append, List.sum_append]
  simp [List.getD, hk]
theorem sumC_le (L ts : List ByteArray) : sumC L ts ≤ L.length * ts.length := by
  induction L with
  | nil => simp [sumC]
  | cons p t ih =>
    simp only [sumC, List.map_cons, List.sum_cons, List.length_cons] at ih ⊢
    have := List.length_filter_le (keepCh p) ts
    rw [Nat.succ_mul]; omega
theorem those_length {ts r : List ByteArray} {f : ByteArray → Bool} (hts : ts.Nodup) (hr : SortedP r) (hm : ∀ x, x ∈ r ↔ x ∈ ts ∧ f x = true) : r.length = (ts.filter f).length := by
  have h2 : r.Perm (ts.filter f) := (List.perm_ext_iff_of_nodup hr.nodup (hts.filter f)).2 fun a => by rw [hm, List.mem_filter]
  exact h2.length_eq
end Go.Proofs.YtndedphkgkmckaaDoor
/-
  Trees of paths: Equal (maps.Equal of two maps of paths).
-/
namespace Go.Proofs.YtndedphkgkmckaaDoor
open Go.RowKit Go.Maps Go.WideMaps Go.ChangeMaps
set_option linter.unusedSimpArgs false
set_option linter.unusedVariables false

/-- A look-up with ok, whose run is known. -/
theorem wpList_lookup_ok_run {P : Program} {w : World} {ops : Array Oper} {rest : List Oper} {o : Oper} {a : Act} {Q : Exit → Act → World → Prop} (hw : Region.wanted o (yielded ops a.tmps) = true) (m x : Operand) (t : TypeId)
    (ho : o.op = Op.lookup t m x true) (mv key : Value) (hm : a.eval m = mv) (hx : a.eval x = key) {v : Value} {w' : World} (hr : (Instr.lookup t mv key true).run P w = .ok v w') (h : wpList P ops Q rest (a.put o.dst v) w') : wpList P ops Q (o :: rest) a w := by
  refine wpList_step fun K hK => ?_
  rw [if_pos hw]
  unfold Oper.wp
  simp [execOp, ho, hm, hx, hr, Result.andThen]
  exact hK _ _ h

set_option maxRecDepth 100000 in
theorem map_look_ok (w : World) (mv : Value) (ts : List ByteArray) (p : ByteArray) (hp : p.size ≤ 1000000) (h : MapV w mv (fun s => memS s ts) ts.length) :
    (Instr.lookup 67 mv (.string p) true).run Tryd.prog w = .ok (.tuple #[.bool (memS p ts), .bool (memS p ts)]) w := by
  have hkey := keyOf_string_mk Tryd.underlying9 (s := p) (by unfold maxLen; omega)
  rcases h with ⟨rfl, h0, _⟩ | ⟨m, n, D, rfl, h1, h2, _, _⟩
  · have := Maps.look_nil (w := w) true lawT Tryd.underlying67 (zeroBl w) hkey
    have h0p : memS p ts = false := h0 p
    rw [h0p, this]
    rfl
  · obtain ⟨v, ps, hrun, hv⟩ := h1.look_ok lawT Tryd.underlying67 (zeroBl w) (pl_bool false) hkey
    rw [(h2 p).1] at hrun
    rw [(h2 p).2] at hv
    obtain ⟨x, rfl, hx⟩ := pl_bool_inv hv
    injection hx with hx1 hx2
    injection hx1 with hx1
    injection hx1 with hx1
    rw [hrun, ← hx1]

theorem sub_all : ∀ {ts us : List ByteArray}, ts.Nodup → us.Nodup → ts.length = us.length → (∀ x, x ∈ ts → x ∈ us) → ∀ x, x ∈ us → x ∈ ts
  | [], us, _, _, hl, _, x, hx => by
    have : us = [] := List.eq_nil_of_length_eq_zero (by simpa using hl.symm)
    rw [this] at hx; cases hx
  | a :: t, us, hn, hm, hl, hs, x, hx => by
    rw [List.nodup_cons] at hn
    by_cases e : x = a
    · rw [e]; simp
    · have hau : a ∈ us := hs a (by simp)
      have hlr := length_remT hm hau
      have hxr : x ∈ remT us a := mem_remT.2 ⟨e, hx⟩
      have := sub_all (ts := t) (us := remT us a) hn.2 (hm.filter _) (by simp at hl; omega) (fun y hy => mem_remT.2 ⟨fun e2 => hn.1 (by rw [← e2]; exact hy), hs y (List.mem_cons_of_mem _ hy)⟩) x hxr
      exact List.mem_cons_of_mem _ this

theorem len_mapV (w : World) (mv : Value) (M : ByteArray → Bool) (c : Nat) (h : MapV w mv M c) (ty : TypeId) : (Builtin.len_ #[67] ty #[mv]).run Tryd.prog w = .ok (.int .i64 c) w := by
  rcases h with ⟨rfl, _, rfl⟩ | ⟨m, n, D, rfl, h1, h2, h3, h4⟩
  · exact Maps.len_nil (P := Tryd.prog) (w := w) Tryd.underlying67 ty
  · have := h1.len Tryd.underlying67 ty
    rw [h3] at this
    exact this

/-- What the loop keeps: the paths that came by are in the other map. -/
structure MeInv (w wr : World) (m n : Nat) (D : DataW Unit) (ts us : List ByteArray) (left : Lit → Bool) (cnt : Nat) : Prop where
  rg : wr.ranges Tryd.prog 9 (plainElem Tryd.prog 4) m w.heap.size n D left cnt
  mem : ∀ s, s ∈ ts → left (.string s.data.toList) = false → s ∈ us
  kept : Kept (fun _ => False) w wr

set_option maxRecDepth 100000 in
set_option maxHeartbeats 1600000 in
theorem mequal_any (w : World) (mv1 mv2 : Value) (ts us : List ByteArray) (B : Bool) (h1 : MapV w mv1 (fun s => memS s ts) ts.length) (h2 : MapV w mv2 (fun s => memS s us) us.length) (n1 : ts.Nodup) (n2 : us.Nodup) (hz : ∀ s ∈ ts, s.size ≤ 1000000)
    (hB : B = true ↔ ∀ x, x ∈ ts ↔ x ∈ us) :
    Calls Tryd.prog 45 #[mv1, mv2] w fun e w' => e = .returned (.bool B) ∧ Kept (fun _ => False) w w' := by
  have hl1 := fun ty => len_mapV w mv1 _ _ h1 ty
  have hl2 := fun ty => len_mapV w mv2 _ _ h2 ty
  have hLK := fun (W : World) (hk : Kept (fun _ => False) w W) (p : ByteArray) (hp : p.size ≤ 1000000) => map_look_ok W mv2 us p hp (h2.kept hk (fun _ _ h => h))
  have HLK := Lib.hid hLK; have HZ := Lib.hid hz; have HB := Lib.hid hB; have HN1 := Lib.hid n1; have HN2 := Lib.hid n2
  by_cases hlen : ts.length = us.length
  · have HLEN := Lib.hid hlen
    have hbe : (((us.length : Nat) : Int) != ((us.length : Nat) : Int)) = false := by simp
    rw [hlen] at hl1
    have HM2 := Lib.hid h2
    have HMB : Hid (∃ mb2, mv2 = .map mb2) := by
      rcases h2 with ⟨rfl, _⟩ | ⟨m, n, D, rfl, _⟩
      · exact ⟨_, rfl⟩
      · exact ⟨_, rfl⟩
    obtain ⟨mb2, rfl⟩ := HMB.out
    obtain ⟨c, hc⟩ : ∃ c, c = us.length := ⟨_, rfl⟩
    rw [← hc] at hl1 hl2 hbe
    clear hc hlen hLK hz hB n1 n2 h2
    rcases h1 with ⟨rfl, h0, h00⟩ | ⟨m, n, D, rfl, h1, h2, h3, h4⟩
    · have hts0 : ts = [] := List.length_eq_zero_iff.1 h00
      have hus0 : us = [] := List.length_eq_zero_iff.1 (by have := HLEN.out; omega)
      have hb : B = true := HB.out.2 fun x => by rw [hts0, hus0]
      subst hb
      have hrg := run_range_nilMap (P := Tryd.prog) w 67 9 4 Tryd.underlying67
      have hnx : ∀ ty, (Instr.next (.pointer (some ⟨w.heap.size, 0, none⟩)) false ty).run Tryd.prog (w.alloc (.mapIter none 0 #[] 0)) = _ := fun ty => run_next_nilMap _ ty 0 0 #[]
      have HK := Lib.hid (Kept.alloc (fun _ => False) w (.mapIter none 0 #[] 0))
      clear hts0 hus0 h0 h00 HB
      go_enter Tryd.func45, Tryd.ntmps45
      go_wp2
      refine wp_loop_rounds 1 ?_
      rw [rounds_succ]
      go_wp2
      go_ret
      exact ⟨rfl, HK.out⟩
    · have H1 := Lib.hid h1; have H2 := Lib.hid h2; have H3 := Lib.hid h3
      have hml := h1.lt
      clear h1 h2 h3
      go_enter Tryd.func45, Tryd.ntmps45
      go_wp2_with (first
        | (at_range; refine wpList_range_own _ rfl _ 67 rfl 9 4 lawT Tryd.underlying67 _ m n _ rfl H1.out ?_; intro w0 hrg0 hg0 hs0)
        | fail)
      try go_frame
      have HI0 : Hid (MeInv w w0 m n D ts us (Maps.has D) (Maps.size D)) :=
        ⟨hrg0, (fun s hs hh => by
          rw [(H2.out s).1] at hh
          have a3 : memS s ts = false := hh
          rw [(memS_iff s ts).2 hs] at a3; cases a3), Kept.ofGrown hg0 (fun k e => by cases e)⟩
      clear hrg0 hg0 hl1 hl2
      go_loopw [5, 6] (fun _ _ wr => ∃ (left : Lit → Bool) (cnt : Nat), Hid (MeInv w wr m n D ts us left cnt))
        (fun _ _ wr => wr.rangeLeft m w.heap.size)
      case atStart => exact ⟨_, _, HI0⟩
      case round =>
        obtain ⟨left, cnt, hI⟩ := hrel
        have hrg := hI.out.rg
        go_wp2_with (first
          | (at_next; refine wpList_next_ranges _ rfl _ rfl 9 lawT (plainElem Tryd.prog 4) Value.string vB (fun key kl h => by obtain ⟨s, rfl, _⟩ := key_invT h; exact ⟨s, rfl⟩) (fun v y h => pl_vB_inv h) m w.heap.size n _ _ _ rfl hrg ?_ ?_)
          | fail)
        · intro hc0 hl0
          have hb : B = true := by
            refine HB.out.2 fun x => ⟨fun hx => hI.out.mem x hx (by rw [hl0]), fun hx => ?_⟩
            exact sub_all HN1.out HN2.out HLEN.out (fun y hy => hI.out.mem y hy (by rw [hl0])) x hx
          have HK := Lib.hid hI.out.kept
          clear hI hrg hl0
          subst hb
          go_wp2_with fail
          go_ret
          exact ⟨rfl, HK.out⟩
        · intro x cv kl y ys w1 cnt1 hkey hlx hv hat hrg1 hlt hg1 hs1 hen
          have hvb : vB cv = .bool (decide (cv = 1)) := rfl
          rw [hvb] at hv hen ⊢
          generalize decide (cv = 1) = cb at hv hen ⊢
          obtain ⟨x', ex, rfl, hxs⟩ := key_invT hkey
          cases ex
          have hxt : x ∈ ts := by
            have := has_true_of_atKey hat
            rw [(H2.out x).1] at this
            exact (memS_iff x ts).1 this
          have hcb : cb = true := by
            have e1 := (H2.out x).2
            rw [hat] at e1
            obtain ⟨c', ec, ey⟩ := pl_bool_inv hv
            cases ec
            cases ey
            have e2 : (DataW.lit (Lit.bool cb) : DataW Unit) = .lit (.bool (memS x ts)) := e1
            injection e2 with e2
            injection e2 with e2
            rw [e2]; exact (memS_iff x ts).2 hxt
          subst hcb
          have hxz := HZ.out x hxt
          have hk01 : Kept (fun k => k = w.heap.size) wr w1 := Kept.ofGrown hg1 (fun k e => (Option.some.inj e).symm)
          have hkw1 : Kept (fun _ => False) w w1 := hI.out.kept.trans hk01 (fun _ _ h => h) (fun i hi e => by omega)
          have hleft : ∀ s : ByteArray, (left (.string s.data.toList) && !(Lit.string s.data.toList).sameKey (.string x.data.toList)) = false → (left (.string s.data.toList) = false ∨ s = x) := fun s => by
            rw [Bool.and_eq_false_iff]
            rintro (e | e)
            · exact Or.inl e
            · right
              rw [Bool.not_eq_false'] at e
              have := WideAt.sameKey_eq e
              injection this with this
              exact str_ext this
          have hlook := HLK.out w1 hkw1 x hxz
          have HLOOK := Lib.hid hlook
          have HLEQ := Lib.hid hrg.left_eq
          have HLT := Lib.hid hlt
          have HL1 := Lib.hid hrg1.left_eq
          cases hm : memS x us with
          | false =>
            have hb : B = false := by
              cases hbb : B with
              | false => rfl
              | true =>
                have := (HB.out.1 hbb x).1 hxt
                rw [(memS_iff x us).2 this] at hm; cases hm
            rw [hm] at HLOOK
            have HKW := Lib.hid hkw1
            clear HB
            subst hb
            clear hxt hxz hk01 hleft hlook hI hrg hrg1 hv hat hkey hg1 hvb hkw1 hm
            go_wp2_with (first
              | (at_lookup; refine wpList_lookup_ok_run (by rfl) _ _ _ rfl _ _ rfl rfl HLOOK.out ?_)
              | fail)
            go_ret
            exact ⟨rfl, HKW.out⟩
          | true =>
            have HI1 : Hid (MeInv w w1 m n D ts us _ cnt1) := ⟨hrg1, fun s hs hh => by
              rcases hleft s hh with e | rfl
              · exact hI.out.mem s hs e
              · exact (memS_iff _ us).1 hm, hkw1⟩
            rw [hm] at HLOOK
            clear hxt hxz hk01 hleft hlook hI hrg hrg1 hv hat hkey hg1 hvb hkw1 hm
            go_wp2_with (first
              | (at_lookup; refine wpList_lookup_ok_run (by rfl) _ _ _ rfl _ _ rfl rfl HLOOK.out ?_)
              | fail)
            go_roundw
            case rel => first | exact ⟨_, cnt1, HI1⟩ | ((repeat apply Exists.intro); exact ⟨⟨_, cnt1, HI1⟩, rfl⟩)
            case measure => rw [HL1.out, HLEQ.out]; exact HLT.out
  · have hb : B = false := by
      cases hbb : B with
      | false => rfl
      | true =>
        have h3 := hB.1 hbb
        exact absurd ((List.perm_ext_iff_of_nodup n1 n2).2 h3).length_eq hlen
    clear HB hB
    subst hb
    have hbe : (((ts.length : Nat) : Int) != ((us.length : Nat) : Int)) = true := by
      rw [bne_iff_ne]; omega
    have HMB : Hid ((∃ mb1, mv1 = .map mb1) ∧ ∃ mb2, mv2 = .map mb2) := by
      refine ⟨?_, ?_⟩
      · rcases h1 with ⟨rfl, _⟩ | ⟨m, n, D, rfl, _⟩
        · exact ⟨_, rfl⟩
        · exact ⟨_, rfl⟩
      · rcases h2 with ⟨rfl, _⟩ | ⟨m, n, D, rfl, _⟩
        · exact ⟨_, rfl⟩
        · exact ⟨_, rfl⟩
    obtain ⟨⟨mb1, rfl⟩, mb2, rfl⟩ := HMB.out
    generalize ts.length = c1 at hl1 hbe
    generalize us.length = c2 at hl2 hbe
    clear h1 h2 n1 n2 hz hLK hlen
    go_enter Tryd.func45, Tryd.ntmps45
    go_wp2_with fail
    go_ret
    exact ⟨rfl, Kept.refl _ _⟩

set_option maxRecDepth 100000 in
set_option maxHeartbeats 800000 in
theorem tequalP_any (w : World) (g1 g2 : Nat) (mv1 mv2 : Value) (ts us : List ByteArray) (B : Bool) (h1 : TreeL w g1 mv1 ts) (h2 : TreeL w g2 mv2 us) (n1 : ts.Nodup) (n2 : us.Nodup) (hz : ∀ s ∈ ts, s.size ≤ 1000000)
    (hB : B = true ↔ ∀ x, x ∈ ts ↔ x ∈ us) :
    Calls Tryd.prog 22 #[.pointer (some ⟨g1, 0, none⟩), .pointer (some ⟨g2, 0, none⟩)] w fun e w' => e = .returned (.bool B) ∧ Kept (fun _ => False) w w' := by
  have HE := Lib.hid (mequal_any w.drew mv1 mv2 ts us B (h1.stay (Kept.refl (fun _ => False) w).drew).map (h2.stay (Kept.refl (fun _ => False) w).drew).map n1 n2 hz hB)
  have hc1 := h1.cell
  have hc2 := h2.cell
  have D0 := Lib.hid (Kept.refl (fun _ => False) w).drew
  have HCC : Hid (∀ W, Kept (fun _ => False) w W → W.cell? ⟨g1, 0, none⟩ = some mv1 ∧ W.cell? ⟨g2, 0, none⟩ = some mv2) := fun W k5 =>
    ⟨(k5.cell (p := ⟨g1, 0, none⟩) (World.block_lt_of_cell? w _ hc1) (fun h => h)).trans hc1, (k5.cell (p := ⟨g2, 0, none⟩) (World.block_lt_of_cell? w _ hc2) (fun h => h)).trans hc2⟩
  clear h1 h2 n1 n2 hz hB
  go_enter Tryd.func22, Tryd.ntmps22
  go_wp2_with fail
  go_region_held3 (fun w' => w'.cell? ⟨g1, 0, none⟩ = some mv1 ∧ w'.cell? ⟨g2, 0, none⟩ = some mv2)
    (first | exact HCC.out _ k5.out | exact HCC.out _ D0.out)
    ((go_at_call 45; (with_reducible refine HE.out.mono ?_); rintro e w5 ⟨rfl, kk⟩; have k5 := Lib.hid (D0.out.then kk); clear kk))
  all_goals
    go_wp2_with fail
    go_ret
    exact ⟨rfl, k5.out⟩
end Go.Proofs.YtndedphkgkmckaaDoor
/-
  arbaclaw07.PathKeeps: the walk of the law.
-/
namespace Go.Proofs.YtndedphkgkmckaaDoor
open Go.Joins Go.ChangeShapes Go.WideShapes Go.ChangeAt Go.RowKit Go.Deep
set_option linter.unusedSimpArgs false
set_option linter.unusedVariables false
set_option linter.constructorNameAsVariable false

set_option maxRecDepth 100000 in
theorem op_in {H : Type} {enc : TypeId × Value → H} {W : World} {base : Nat} {v : Value} {d : DataW H} {p : List MemPlace} (o : Value.okWide Tryd.prog W .any base 39 v) (h : DataW.Trod enc Tryd.prog W 0 (fun _ => true) true 39 v d p) :
    ∃ rm pv raw xs, v = .agg #[.bool rm, pv, .string raw] ∧ Loose W pv xs W.heap.size ∧ (∀ x ∈ xs, x < 256) ∧ raw.size ≤ maxLen := by
  obtain ⟨v0, v1, v2, y0, y1, y2, n, rfl, _, _, t0, t1, t2⟩ := open_agg3 Tryd.underlying39 (by kernel_rfl) cellsOp o h
  obtain ⟨b, e0, _⟩ := DataW.trod_bool Tryd.underlying4 t0
  obtain ⟨s, e2, _, hsz⟩ := DataW.trod_string Tryd.underlying9 t2
  injection e0 with e0; injection e2 with e2
  subst e0 e2
  obtain ⟨xs, hlo, hby⟩ := loose_of t1
  exact ⟨b, v1, s, xs, rfl, hlo, hby, hsz⟩

theorem root_hasK (ts : List ByteArray) : hasS ts (⟨#[47]⟩ : ByteArray) = true := by
  unfold hasS
  rw [show ((⟨#[47]⟩ : ByteArray).toList == [47]) = true by rw [ByteArray.toList_eq]; rfl]
  rfl
theorem Both.equal {ts want us want2 : List ByteArray} (h : Both ts want) (k : Both us want2) : decide (want = want2) = true ↔ ∀ x, x ∈ ts ↔ x ∈ us := by
  rw [decide_eq_true_iff]
  constructor
  · rintro rfl x
    constructor
    · intro hx
      rcases (k.mem x).1 ((h.mem x).2 (Or.inr hx)) with e | e
      · exact absurd (by rw [← e]; exact hx) h.noroot
      · exact e
    · intro hx
      rcases (h.mem x).1 ((k.mem x).2 (Or.inr hx)) with e | e
      · exact absurd (by rw [← e]; exact hx) k.noroot
      · exact e
  · intro he
    refine sortedP_unique h.sorted k.sorted fun x => ?_
    rw [h.mem, k.mem, he]
theorem Both.add_has {ts want : List ByteArray} (h : Both ts want) {p : ByteArray} {xs : List ByteArray} (hp : namesS p = some xs) : hasS (addL (fun k => pathS (xs.take k)) xs.length ts) p = true := by
  have hpe : p = pathS (xs.take xs.length) := by rw [List.take_length]; exact (pathS_names hp).1
  by_cases h0 : xs.length = 0
  · unfold hasS
    have : p = rootS := by rw [hpe, h0, List.take_zero]; exact pathS_nil
    rw [root_iff.2 this]; rfl
  · unfold hasS
    rw [(memS_iff _ _).2 ((mem_addL _ _).2 (Or.inl ⟨xs.length, by omega, Nat.le_refl _, hpe⟩))]; simp
theorem Both.add_same {ts want : List ByteArray} (h : Both ts want) {p : ByteArray} {xs : List ByteArray} (hp : namesS p = some xs) : hasS ts p = true ↔ ∀ x, x ∈ addL (fun k => pathS (xs.take k)) xs.length ts ↔ x ∈ ts := by
  have hpe : p = pathS (xs.take xs.length) := by rw [List.take_length]; exact (pathS_names hp).1
  constructor
  · intro hh x
    rw [mem_addL]
    refine ⟨?_, Or.inr⟩
    rintro (⟨k, h1, h2, rfl⟩ | hx)
    · unfold hasS at hh
      rw [Bool.or_eq_true, beq_iff_eq, memS_iff] at hh
      rcases hh with hh | hh
      · rw [root_iff.1 hh, names_rootS] at hp
        rw [← Option.some.inj hp] at h2
        simp at h2
        omega
      · exact h.closed p xs hh hp k h1 h2
    · exact hx
  · intro hh
    by_cases h0 : xs.length = 0
    · unfold hasS
      have : p = rootS := by rw [hpe, h0, List.take_zero]; exact pathS_nil
      rw [root_iff.2 this]; rfl
    · unfold hasS
      have := (hh p).1 ((mem_addL _ _).2 (Or.inl ⟨xs.length, by omega, Nat.le_refl _, hpe⟩))
      rw [(memS_iff _ _).2 this]; simp

/-- A removal, whatever comes of it. -/
theorem remove_some (w : World) (g : Nat) (mv : Value) (ts want : List ByteArray) (p : ByteArray) (h : TreeL w g mv ts) (hb : Both ts want) (hl : ts.length ≤ 50000) (hsz : p.size ≤ 1000000) :
    Calls Tryd.prog 21 #[.pointer (some ⟨g, 0, none⟩), .string p] w fun e w' => ∃ x y, e = .returned (.tuple #[x, y]) ∧ Kept (fun _ => False) w w' := by
  rcases hb.error p with ⟨q1, hE⟩ | ⟨q1, q2, hE⟩ | ⟨q1, q2, q3, hE⟩ | ⟨q1, q2, q3, q4, hE⟩ | ⟨q1, q2, q3, q4, hE⟩
  · exact (remove_form w g p hsz q1).mono fun e w' h => ⟨_, _, h.1, h.2⟩
  · exact (remove_root w g p hsz q1 q2).mono fun e w' h => ⟨_, _, h.1, h.2⟩
  · exact (remove_none w g mv ts p h hsz q1 q2 q3).mono fun e w' h => ⟨_, _, h.1, h.2⟩
  · exact (remove_state w g mv ts p h hb.paths hl hsz q1 q2 q3 q4).mono fun e w' h => ⟨_, _, h.1, h.2⟩
  · exact (remove_ok w g mv ts p h hb.paths hb.nodup hl hsz q1 q2 q3 q4).mono fun e w' ⟨_, _, h1, _, _, _, _, h2⟩ => ⟨_, _, h1, h2⟩

/-- Below of the root: the list of all paths. -/
theorem below_rootL (w : World) (g : Nat) (mv : Value) (ts want : List ByteArray) (h : TreeL w g mv ts) (hb : Both ts want) (hl : ts.length ≤ 50000) :
    Calls Tryd.prog 11 #[.pointer (some ⟨g, 0, none⟩), .string ⟨#[47]⟩] w fun e w' => ∃ v, e = .returned v ∧ OwnS w' w.heap.size v want ∧ Kept (fun _ => False) w w' := by
  refine (below_own w g mv ts ⟨#[47]⟩ h hb.paths hl (by simp [ByteArray.size]) (root_hasK ts)).mono ?_
  rintro e w' ⟨v, r, rfl, ho, hsr, hmr, _, _, hk⟩
  have hall : (⟨#[47]⟩ : ByteArray) :: r = want := by
    have h1 := hb.below_list (p := rootS) ((hb.mem _).2 (Or.inl rfl)) hsr hmr
    rw [hb.below_all] at h1
    exact h1
  rw [hall] at ho
  exact ⟨v, rfl, ho, hk⟩

/-- What the loop keeps that spoils the list. -/
structure Spoil (w wr : World) (gb L : Nat) : Prop where
  cell : ∀ j, j < L → ∃ s : ByteArray, wr.cell? ⟨gb, j, none⟩ = some (.string s)
  free : ∀ j, j < L → wr.frozen? ⟨gb, j, none⟩ = false
  kept : Kept (fun i => i = gb) w wr
theorem Spoil.put {w wr : World} {gb L k : Nat} (h : Spoil w wr gb L) (hk : k < L) (x : ByteArray) : Spoil w (wr.setCell ⟨gb, k, none⟩ (.string x)) gb L := by
  refine ⟨fun j hj => ?_, fun j hj => ?_, h.kept.trans (Kept.setCell (fun i => i = gb) wr ⟨gb, k, none⟩ _ rfl) (fun _ _ h => h) (fun _ _ h => h)⟩
  · obtain ⟨s, hs⟩ := h.cell j hj
    by_cases e : j = k
    · subst e
      exact ⟨x, World.cell?_setCell_same _ _ _ hs⟩
    · exact ⟨s, (World.cell?_setCell_other _ _ _ _ (fun e2 => e (by first | (simp at e2; done) | (simp at e2; omega)))).trans hs⟩
  · rw [World.frozen?_setCell]; exact h.free j hj
theorem Spoil.start {w : World} {B gb L c : Nat} {xs : List ByteArray} (h : OwnS w B (.slice (some ⟨gb, 0, none⟩) L c) xs) (hl : L = xs.length) : Spoil w w gb L := by
  refine ⟨fun j hj => ?_, fun j hj => ?_, Kept.refl _ _⟩
  · obtain ⟨g, off, e, _, hc⟩ := (Strs.ofOwn h).at (k := j) (by omega)
    rcases h.own.2 with ⟨e0, _⟩ | ⟨g', cap, cur, e0, _⟩
    · cases e0
    · cases e0
      cases e
      rw [Nat.zero_add] at hc
      exact ⟨_, hc⟩
  · rcases h.own.2 with ⟨e0, _⟩ | ⟨g', cap, cur, e0, _, hh, _⟩
    · cases e0
    · cases e0
      simp [World.frozen?, hh]

set_option maxRecDepth 100000 in
set_option maxHeartbeats 12800000 in
theorem keeps_law (v1 v2 : Value) (N1 N2 : Nat) (rm : Bool) (pv : Value) (raw : ByteArray) (xs : List Nat) (w : World) (h1 : OpsL w v1 N1 w.heap.size) (h2 : OpsL w v2 N2 w.heap.size)
    (hlo : Loose w pv xs w.heap.size) (hby : ∀ x ∈ xs, x < 256) (hsz : raw.size ≤ maxLen) :
    Calls Tryd.prog 4 #[v1, v2, .agg #[.bool rm, pv, .string raw]] w fun e w' => e = .returned (.bool true) ∧ Kept (fun _ => False) w w' := by
  obtain ⟨oa1, oc1, rfl, _, _⟩ := h1.form
  obtain ⟨oa2, oc2, rfl, _, _⟩ := h2.form
  obtain ⟨pa, pc, hpf⟩ := hlo.form
  subst hpf
  obtain ⟨pn, hpn⟩ : ∃ pn, pn = xs.length := ⟨_, rfl⟩
  rw [← hpn] at hlo ⊢
  clear hpn
  have hkx := Kept.alloc (fun _ => False) w (.cells #[.bool rm, .slice pa pn pc, .string raw] 39)
  have hbx : ∀ W, Kept (fun _ => False) (w.alloc (.cells #[.bool rm, .slice pa pn pc, .string raw] 39)) W → W.cell? ⟨w.heap.size, 0, none⟩ = some (.bool rm) ∧ W.cell? ⟨w.heap.size, 1, none⟩ = some (.slice pa pn pc) ∧ W.cell? ⟨w.heap.size, 2, none⟩ = some (.string raw) := fun W hk =>
    ⟨(hk.cell (p := ⟨w.heap.size, 0, none⟩) (by simp) (fun h => h)).trans (by go_simp), (hk.cell (p := ⟨w.heap.size, 1, none⟩) (by simp) (fun h => h)).trans (by go_simp), (hk.cell (p := ⟨w.heap.size, 2, none⟩) (by simp) (fun h => h)).trans (by go_simp)⟩
  have HOF0 := Lib.hid (fun (W : World) (hk : Kept (fun _ => False) w W) => of_op rm (.slice pa pn pc) raw xs _ W (hlo.kept hk (fun _ _ h => h)) hby hsz)
  have hps := opS_size raw xs
  generalize opS raw xs = p at HOF0 hps
  have HP1 := Lib.hid h1; have HP2 := Lib.hid h2; have HKX := Lib.hid hkx; have HBX := Lib.hid hbx
  clear h1 h2 hlo hby hsz hkx hbx
  go_enter Tryd.func4, Tryd.ntmps4
  go_wp2_with fail
  generalize w.alloc (.cells #[.bool rm, .slice pa pn pc, .string raw] 39) = wA at HKX HBX ⊢
  obtain ⟨bx, hbxe⟩ : ∃ bx, w.heap.size = bx := ⟨_, rfl⟩
  rw [hbxe] at HBX ⊢
  clear hbxe
  have HOF1 := Lib.hid (fun (W : World) (hk : Kept (fun _ => False) wA W) => HOF0.out W (HKX.out.then hk))
  refine (awake7_any wA).mono ?_
  rintro e w1 ⟨rfl, k1⟩
  have K1 := Lib.hid k1; clear k1
  go_wp2_with fail
  refine (play_any _ N1 _ w1 (HP1.out.kept (HKX.out.then K1.out))).mono ?_
  rintro e w2 ⟨g1, mv1, v3, ts, want, rfl, ht1⟩
  have HT1 := Lib.hid ht1
  have K2 := Lib.hid (K1.out.then ht1.kept)
  clear ht1
  go_wp2_with fail
  refine (play_any _ N2 _ w2 (HP2.out.kept (HKX.out.then K2.out))).mono ?_
  rintro e w3 ⟨g2, mv2, v4, us, want2, rfl, ht2⟩
  have HU := Lib.hid ht2
  have HT3 := Lib.hid (HT1.out.on ht2.kept (Nat.le_refl _))
  have K3 := Lib.hid (K2.out.then ht2.kept)
  have hln := HT3.out.len
  have hln2 := ht2.len
  clear ht2 HT1 HP1 HP2
  go_wp2_with fail
  refine (below_rootL w3 g1 mv1 ts want HT3.out.tree HT3.out.both (by omega)).mono ?_
  rintro e w4 ⟨vw, rfl, how, k4⟩
  have HW4 := Lib.hid (Strs.ofOwn how)
  have K34 := Lib.hid k4
  have hx4 := HBX.out w4 (K3.out.then k4)
  obtain ⟨x40, x41, x42⟩ := hx4
  clear how k4
  go_wp2_with fail
  refine (HOF1.out w4 (K3.out.then K34.out)).mono ?_
  rintro e w5 ⟨rfl, k5⟩
  have K35 := Lib.hid (K34.out.then k5)
  have HW5 := Lib.hid (HW4.out.kept k5 (fun _ _ h => h))
  clear k5 x40 x41 x42
  cases hn : namesS p with
  | none =>
    have HA := Lib.hid (add_no w5 g1 p (by omega) hn)
    clear hn
    go_wp2_with fail
    refine HA.out.mono ?_
    rintro e w6 ⟨rfl, k6⟩
    have K36 := Lib.hid (K35.out.then k6)
    have HW6 := Lib.hid (HW5.out.kept k6 (fun _ _ h => h))
    obtain ⟨x40, x41, x42⟩ := HBX.out w6 (K3.out.then K36.out)
    clear k6 HA
    go_wp2_with fail
    refine (HOF1.out w6 (K3.out.then K36.out)).mono ?_
    rintro e w7 ⟨rfl, k7⟩
    have K37 := Lib.hid (K36.out.then k7)
    have HW7 := Lib.hid (HW6.out.kept k7 (fun _ _ h => h))
    clear k7 x40 x41 x42
    go_wp2_with fail
    refine (remove_some w7 g1 mv1 ts want p (HT3.out.tree.stay K37.out) HT3.out.both (by omega) (by omega)).mono ?_
    rintro e w8 ⟨rx, ry, rfl, k8⟩
    have K38 := Lib.hid (K37.out.then k8)
    have HW8 := Lib.hid (HW7.out.kept k8 (fun _ _ h => h))
    clear k8
    go_wp2_with fail
    refine (below_rootL w8 g1 mv1 ts want (HT3.out.tree.stay K38.out) HT3.out.both (by omega)).mono ?_
    rintro e w9 ⟨vl, rfl, hol, k9⟩
    have K89 := Lib.hid k9
    obtain ⟨al, cl, rfl, _, hcl⟩ := (Strs.ofOwn hol).form
    obtain ⟨L, hL⟩ : ∃ L, L = want.length := ⟨_, rfl⟩
    have hLp : L = ts.length + 1 := by rw [hL]; exact HT3.out.both.len
    rw [← hL] at hol ⊢
    obtain ⟨gl, rfl⟩ : ∃ gl, al = some ⟨gl, 0, none⟩ := by
      rcases hol.own.2 with ⟨e0, _⟩ | ⟨g', cap, cur, e0, _⟩
      · injection e0 with e1 e2 e3; omega
      · cases e0; exact ⟨_, rfl⟩
    have hgl := (hol.bound gl rfl).1
    have HSP := Lib.hid (Spoil.start hol hL)
    have hLb : L ≤ 200 := by omega
    clear hol k9 hL hcl hLp
    go_wp2_with fail
    go_loopw [15, 51] (fun _ iv wr => ∃ k : Nat, k ≤ L ∧ iv = .int .i64 k ∧ Hid (Spoil w9 wr gl L)) (fun _ iv _ => L - (intOf iv).toNat)
    case atStart => exact ⟨0, by omega, rfl, HSP⟩
    case round =>
      obtain ⟨k, hk, rfl, hsp⟩ := hrel
      by_cases hlt : k < L
      · have l1 : (k : Int) < (L : Int) := by omega
        have l0 : (0 : Int) ≤ (k : Int) := by omega
        obtain ⟨s9, hs9⟩ := hsp.out.cell k hlt
        have hf9 := hsp.out.free k hlt
        have HSP1 := Lib.hid (hsp.out.put hlt ⟨#[115, 112, 111, 105, 108, 116]⟩)
        go_wp2_with fail
        go_roundw
        case rel => first | exact ⟨k + 1, by omega, by go_num, HSP1⟩ | ((repeat apply Exists.intro); exact ⟨⟨k + 1, by omega, by go_num, HSP1⟩, rfl⟩)
        case measure => simp [intOf]; omega
      · obtain rfl : k = L := by omega
        have k8z : Kept (fun _ => False) w8 wr := K89.out.trans hsp.out.kept (fun _ _ h => h) (fun i hi e => by have e : i = gl := e; omega)
        have K3Z := Lib.hid (K38.out.then k8z)
        have KZ := Lib.hid (HKX.out.then (K3.out.then K3Z.out))
        have HWZ := Lib.hid (HW8.out.kept k8z (fun _ _ h => h))
        have K8Z := Lib.hid k8z
        obtain ⟨wz, hwz⟩ : ∃ wz : World, wz = wr := ⟨_, rfl⟩
        rw [← hwz] at K3Z KZ HWZ K8Z ⊢
        clear hwz hsp k8z HSP hgl
        have HC := Lib.hid (fun (W : World) (hk : Kept (fun _ => False) wz W) => HBX.out W (K3.out.then (K3Z.out.then hk)))
        have HOF := Lib.hid (fun (W : World) (hk : Kept (fun _ => False) wz W) => HOF1.out W (K3.out.then (K3Z.out.then hk)))
        have hz1 : ∀ s ∈ ts, s.size ≤ 1000000 := fun s hs => by have := HT3.out.small s ((HT3.out.both.mem s).2 (Or.inr hs)); omega
        have hz2 : ∀ s ∈ us, s.size ≤ 1000000 := fun s hs => by have := HU.out.small s ((HU.out.both.mem s).2 (Or.inr hs)); omega
        have HTZ := Lib.hid (fun (W : World) (hk : Kept (fun _ => False) wz W) => HT3.out.tree.stay (K3Z.out.then hk))
        have HUZ := Lib.hid (fun (W : World) (hk : Kept (fun _ => False) wz W) => HU.out.tree.stay (K3Z.out.then hk))
        have HBE := Lib.hid (fun (W : World) (hk : Kept (fun _ => False) wz W) => (below_rootL W g1 mv1 ts want (HTZ.out W hk) HT3.out.both (by omega)).mono (fun e w' (h : ∃ v, e = .returned v ∧ OwnS w' W.heap.size v want ∧ Kept (fun _ => False) W w') => (by obtain ⟨v, h1, h2, h3⟩ := h; exact ⟨v, h1, Strs.ofOwn h2, h3⟩ : ∃ v, e = .returned v ∧ Strs w' v want ∧ Kept (fun _ => False) W w')))
        have HUB := Lib.hid (fun (W : World) (hk : Kept (fun _ => False) wz W) => (below_rootL W g2 mv2 us want2 (HUZ.out W hk) HU.out.both (by omega)).mono (fun e w' (h : ∃ v, e = .returned v ∧ OwnS w' W.heap.size v want2 ∧ Kept (fun _ => False) W w') => (by obtain ⟨v, h1, h2, h3⟩ := h; exact ⟨v, h1, Strs.ofOwn h2, h3⟩ : ∃ v, e = .returned v ∧ Strs w' v want2 ∧ Kept (fun _ => False) W w')))
        have HEQ : Hid (∀ (W : World) (vb : Value), Kept (fun _ => False) wz W → Strs W vb want → Calls Tryd.prog 10 #[vb, vw] W fun e w' => e = .returned (.bool true) ∧ ∃ m, w' = W.drewN m) := fun W vb hk hs => by
          have := sequal_any vb vw want want W hs (HWZ.out.kept hk (fun _ _ h => h))
          rw [show decide (want = want) = true by simp] at this
          exact this
        have hbeq := HT3.out.both.equal HU.out.both
        have hbeq2 := HU.out.both.equal HT3.out.both
        rw [show decide (want2 = want) = decide (want = want2) from decide_eq_decide.2 ⟨Eq.symm, Eq.symm⟩] at hbeq2
        have hEQ2 := fun (W : World) (vu : Value) (hk : Kept (fun _ => False) wz W) (hs : Strs W vu want2) => sequal_any vw vu want want2 W (HWZ.out.kept hk (fun _ _ h => h)) hs
        generalize decide (want = want2) = B at hbeq hbeq2 hEQ2
        have HEQ2 := Lib.hid hEQ2
        have HTU := Lib.hid (fun (W : World) (hk : Kept (fun _ => False) wz W) => tequalP_any W g1 g2 mv1 mv2 ts us B (HTZ.out W hk) (HUZ.out W hk) HT3.out.both.nodup HU.out.both.nodup hz1 hbeq)
        have HUT := Lib.hid (fun (W : World) (hk : Kept (fun _ => False) wz W) => tequalP_any W g2 g1 mv2 mv1 us ts B (HUZ.out W hk) (HTZ.out W hk) HU.out.both.nodup HT3.out.both.nodup hz2 hbeq2)
        have HTT := Lib.hid (fun (W : World) (hk : Kept (fun _ => False) wz W) => tequalP_any W g1 g1 mv1 mv1 ts ts true (HTZ.out W hk) (HTZ.out W hk) HT3.out.both.nodup HT3.out.both.nodup hz1 (by simp))
        have hbb : (B == B) = true := by simp
        clear hbeq hbeq2 hEQ2 hz1 hz2
        go_wp2_with fail
        have D8 := Lib.hid ((Kept.refl (fun _ => False) wz).drew)
        refine wp_region_held_drew (S := fun w' => w'.cell? ⟨bx, 0, none⟩ = some (.bool rm) ∧ w'.cell? ⟨bx, 1, none⟩ = some (.slice pa pn pc) ∧ w'.cell? ⟨bx, 2, none⟩ = some (.string raw)) (by kernel_rfl) (HC.out _ D8.out) (fun _ => ?_)
        refine wpAnyH_take (i := 0) (v := .pointer (some ⟨g1, 0, none⟩)) rfl (by kernel_rfl) (by kernel_rfl) (by kernel_rfl) (fun _ _ _ h => h) (Or.inl ⟨by simp [Region.wanted, yielded], fun W hW => by obtain ⟨s0, s1, s2⟩ := hW; go_simp⟩) (HC.out _ D8.out) ?_
        try (simp only [Act.put, List.getElem_toArray, List.getElem_cons_succ, List.getElem_cons_zero, List.setIfInBounds_toArray, List.set_cons_zero, List.set_cons_succ])
        refine wpAnyH_take (i := 2) (v := vw) rfl (by kernel_rfl) (by kernel_rfl) (by kernel_rfl) (fun _ _ _ h => h) (Or.inl ⟨by simp [Region.wanted, yielded], fun W hW => by obtain ⟨s0, s1, s2⟩ := hW; go_simp⟩) (HC.out _ D8.out) ?_
        try (simp only [Act.put, List.getElem_toArray, List.getElem_cons_succ, List.getElem_cons_zero, List.setIfInBounds_toArray, List.set_cons_zero, List.set_cons_succ])
        refine wpAnyH_ready (rs := [1]) (by kernel_rfl) (by simp) ?_
        refine AllReadyH.cons (o := _) rfl (fun KK hKK => ?_) AllReadyH.nil
        go_simp
        go_at_call 11
        refine (HBE.out _ D8.out).mono ?_
        rintro e wz9 ⟨vb, rfl, hsb, kz9⟩
        have D9 := Lib.hid (D8.out.then kz9)
        have HSB := Lib.hid hsb
        have HEQ9 := Lib.hid (HEQ.out wz9 vb D9.out hsb)
        clear kz9 hsb
        try go_wp2_with fail
        refine hKK.out _ _ (HC.out _ D9.out) (fun _ => ?_)
        clear hKK KK
        try (simp only [Act.put, List.getElem_toArray, List.getElem_cons_succ, List.getElem_cons_zero, List.setIfInBounds_toArray, List.set_cons_zero, List.set_cons_succ])
        refine wpAnyH_ready (rs := [3]) (by kernel_rfl) (by simp) ?_
        refine AllReadyH.cons (o := _) rfl (fun KK hKK => ?_) AllReadyH.nil
        go_simp
        go_at_call 10
        refine (HEQ9.out).mono ?_
        rintro e wz10 ⟨rfl, q10, rfl⟩
        have D10 := Lib.hid (D9.out.then ((Kept.refl (fun _ => False) wz9).drewN q10))
        try go_wp2_with fail
        refine hKK.out _ _ (HC.out _ D10.out) (fun _ => ?_)
        clear hKK KK
        try (simp only [Act.put, List.getElem_toArray, List.getElem_cons_succ, List.getElem_cons_zero, List.setIfInBounds_toArray, List.set_cons_zero, List.set_cons_succ])
        refine wpAnyH_take (i := 4) (v := .bool false) rfl (by kernel_rfl) (by kernel_rfl) (by kernel_rfl) (fun _ _ _ h => h) (Or.inl ⟨by simp [Region.wanted, yielded], fun W hW => by obtain ⟨s0, s1, s2⟩ := hW; go_simp⟩) (HC.out _ D10.out) ?_
        try (simp only [Act.put, List.getElem_toArray, List.getElem_cons_succ, List.getElem_cons_zero, List.setIfInBounds_toArray, List.set_cons_zero, List.set_cons_succ])
        refine wpAnyH_take (i := 5) (v := .bool false) rfl (by kernel_rfl) (by kernel_rfl) (by kernel_rfl) (fun _ _ _ h => h) (Or.inl ⟨by simp [Region.wanted, yielded], fun W hW => by obtain ⟨s0, s1, s2⟩ := hW; go_simp⟩) (HC.out _ D10.out) ?_
        try (simp only [Act.put, List.getElem_toArray, List.getElem_cons_succ, List.getElem_cons_zero, List.setIfInBounds_toArray, List.set_cons_zero, List.set_cons_succ])
        refine wpAnyH_take (i := 6) (v := .int .i64 6) rfl (by kernel_rfl) (by kernel_rfl) (by kernel_rfl) (fun _ _ _ h => h) (Or.inl ⟨by simp [Region.wanted, yielded], fun W hW => by obtain ⟨s0, s1, s2⟩ := hW; go_simp⟩) (HC.out _ D10.out) ?_
        try (simp only [Act.put, List.getElem_toArray, List.getElem_cons_succ, List.getElem_cons_zero, List.setIfInBounds_toArray, List.set_cons_zero, List.set_cons_succ])
        refine wpAnyH_take (i := 7) (v := .bool false) rfl (by kernel_rfl) (by kernel_rfl) (by kernel_rfl) (fun _ _ _ h => h) (Or.inl ⟨by simp [Region.wanted, yielded], fun W hW => by obtain ⟨s0, s1, s2⟩ := hW; go_simp⟩) (HC.out _ D10.out) ?_
        try (simp only [Act.put, List.getElem_toArray, List.getElem_cons_succ, List.getElem_cons_zero, List.setIfInBounds_toArray, List.set_cons_zero, List.set_cons_succ])
        refine wpAnyH_take (i := 8) (v := .bool false) rfl (by kernel_rfl) (by kernel_rfl) (by kernel_rfl) (fun _ _ _ h => h) (Or.inl ⟨by simp [Region.wanted, yielded], fun W hW => by obtain ⟨s0, s1, s2⟩ := hW; go_simp⟩) (HC.out _ D10.out) ?_
        try (simp only [Act.put, List.getElem_toArray, List.getElem_cons_succ, List.getElem_cons_zero, List.setIfInBounds_toArray, List.set_cons_zero, List.set_cons_succ])
        refine wpAnyH_take (i := 9) (v := undef) rfl (by kernel_rfl) (by kernel_rfl) (by kernel_rfl) (fun _ _ _ h => h) (Or.inr ⟨by first | (simp [Region.wanted, yielded]; done) | (simp [Region.wanted, yielded, undef]; done), rfl⟩) (HC.out _ D10.out) ?_
        try (simp only [Act.put, List.getElem_toArray, List.getElem_cons_succ, List.getElem_cons_zero, List.setIfInBounds_toArray, List.set_cons_zero, List.set_cons_succ])
        refine wpAnyH_take (i := 10) (v := undef) rfl (by kernel_rfl) (by kernel_rfl) (by kernel_rfl) (fun _ _ _ h => h) (Or.inr ⟨by first | (simp [Region.wanted, yielded]; done) | (simp [Region.wanted, yielded, undef]; done), rfl⟩) (HC.out _ D10.out) ?_
        try (simp only [Act.put, List.getElem_toArray, List.getElem_cons_succ, List.getElem_cons_zero, List.setIfInBounds_toArray, List.set_cons_zero, List.set_cons_succ])
        refine wpAnyH_take (i := 11) (v := undef) rfl (by kernel_rfl) (by kernel_rfl) (by kernel_rfl) (fun _ _ _ h => h) (Or.inr ⟨by first | (simp [Region.wanted, yielded]; done) | (simp [Region.wanted, yielded, undef]; done), rfl⟩) (HC.out _ D10.out) ?_
        try (simp only [Act.put, List.getElem_toArray, List.getElem_cons_succ, List.getElem_cons_zero, List.setIfInBounds_toArray, List.set_cons_zero, List.set_cons_succ])
        refine wpAnyH_take (i := 12) (v := undef) rfl (by kernel_rfl) (by kernel_rfl) (by kernel_rfl) (fun _ _ _ h => h) (Or.inr ⟨by first | (simp [Region.wanted, yielded]; done) | (simp [Region.wanted, yielded, undef]; done), rfl⟩) (HC.out _ D10.out) ?_
        try (simp only [Act.put, List.getElem_toArray, List.getElem_cons_succ, List.getElem_cons_zero, List.setIfInBounds_toArray, List.set_cons_zero, List.set_cons_succ])
        refine wpAnyH_take (i := 13) (v := undef) rfl (by kernel_rfl) (by kernel_rfl) (by kernel_rfl) (fun _ _ _ h => h) (Or.inr ⟨by first | (simp [Region.wanted, yielded]; done) | (simp [Region.wanted, yielded, undef]; done), rfl⟩) (HC.out _ D10.out) ?_
        try (simp only [Act.put, List.getElem_toArray, List.getElem_cons_succ, List.getElem_cons_zero, List.setIfInBounds_toArray, List.set_cons_zero, List.set_cons_succ])
        refine wpAnyH_take (i := 14) (v := undef) rfl (by kernel_rfl) (by kernel_rfl) (by kernel_rfl) (fun _ _ _ h => h) (Or.inr ⟨by first | (simp [Region.wanted, yielded]; done) | (simp [Region.wanted, yielded, undef]; done), rfl⟩) (HC.out _ D10.out) ?_
        try (simp only [Act.put, List.getElem_toArray, List.getElem_cons_succ, List.getElem_cons_zero, List.setIfInBounds_toArray, List.set_cons_zero, List.set_cons_succ])
        refine wpAnyH_take (i := 15) (v := undef) rfl (by kernel_rfl) (by kernel_rfl) (by kernel_rfl) (fun _ _ _ h => h) (Or.inr ⟨by first | (simp [Region.wanted, yielded]; done) | (simp [Region.wanted, yielded, undef]; done), rfl⟩) (HC.out _ D10.out) ?_
        try (simp only [Act.put, List.getElem_toArray, List.getElem_cons_succ, List.getElem_cons_zero, List.setIfInBounds_toArray, List.set_cons_zero, List.set_cons_succ])
        refine wpAnyH_take (i := 16) (v := undef) rfl (by kernel_rfl) (by kernel_rfl) (by kernel_rfl) (fun _ _ _ h => h) (Or.inr ⟨by first | (simp [Region.wanted, yielded]; done) | (simp [Region.wanted, yielded, undef]; done), rfl⟩) (HC.out _ D10.out) ?_
        try (simp only [Act.put, List.getElem_toArray, List.getElem_cons_succ, List.getElem_cons_zero, List.setIfInBounds_toArray, List.set_cons_zero, List.set_cons_succ])
        refine wpAnyH_take (i := 17) (v := undef) rfl (by kernel_rfl) (by kernel_rfl) (by kernel_rfl) (fun _ _ _ h => h) (Or.inr ⟨by first | (simp [Region.wanted, yielded]; done) | (simp [Region.wanted, yielded, undef]; done), rfl⟩) (HC.out _ D10.out) ?_
        try (simp only [Act.put, List.getElem_toArray, List.getElem_cons_succ, List.getElem_cons_zero, List.setIfInBounds_toArray, List.set_cons_zero, List.set_cons_succ])
        refine wpAnyH_take (i := 18) (v := undef) rfl (by kernel_rfl) (by kernel_rfl) (by kernel_rfl) (fun _ _ _ h => h) (Or.inr ⟨by first | (simp [Region.wanted, yielded]; done) | (simp [Region.wanted, yielded, undef]; done), rfl⟩) (HC.out _ D10.out) ?_
        try (simp only [Act.put, List.getElem_toArray, List.getElem_cons_succ, List.getElem_cons_zero, List.setIfInBounds_toArray, List.set_cons_zero, List.set_cons_succ])
        refine wpAnyH_take (i := 19) (v := undef) rfl (by kernel_rfl) (by kernel_rfl) (by kernel_rfl) (fun _ _ _ h => h) (Or.inr ⟨by first | (simp [Region.wanted, yielded]; done) | (simp [Region.wanted, yielded, undef]; done), rfl⟩) (HC.out _ D10.out) ?_
        try (simp only [Act.put, List.getElem_toArray, List.getElem_cons_succ, List.getElem_cons_zero, List.setIfInBounds_toArray, List.set_cons_zero, List.set_cons_succ])
        refine wpAnyH_take (i := 20) (v := undef) rfl (by kernel_rfl) (by kernel_rfl) (by kernel_rfl) (fun _ _ _ h => h) (Or.inr ⟨by first | (simp [Region.wanted, yielded]; done) | (simp [Region.wanted, yielded, undef]; done), rfl⟩) (HC.out _ D10.out) ?_
        try (simp only [Act.put, List.getElem_toArray, List.getElem_cons_succ, List.getElem_cons_zero, List.setIfInBounds_toArray, List.set_cons_zero, List.set_cons_succ])
        refine wpAnyH_take (i := 21) (v := undef) rfl (by kernel_rfl) (by kernel_rfl) (by kernel_rfl) (fun _ _ _ h => h) (Or.inr ⟨by first | (simp [Region.wanted, yielded]; done) | (simp [Region.wanted, yielded, undef]; done), rfl⟩) (HC.out _ D10.out) ?_
        try (simp only [Act.put, List.getElem_toArray, List.getElem_cons_succ, List.getElem_cons_zero, List.setIfInBounds_toArray, List.set_cons_zero, List.set_cons_succ])
        refine wpAnyH_take (i := 22) (v := undef) rfl (by kernel_rfl) (by kernel_rfl) (by kernel_rfl) (fun _ _ _ h => h) (Or.inr ⟨by first | (simp [Region.wanted, yielded]; done) | (simp [Region.wanted, yielded, undef]; done), rfl⟩) (HC.out _ D10.out) ?_
        try (simp only [Act.put, List.getElem_toArray, List.getElem_cons_succ, List.getElem_cons_zero, List.setIfInBounds_toArray, List.set_cons_zero, List.set_cons_succ])
        refine wpAnyH_take (i := 23) (v := undef) rfl (by kernel_rfl) (by kernel_rfl) (by kernel_rfl) (fun _ _ _ h => h) (Or.inr ⟨by first | (simp [Region.wanted, yielded]; done) | (simp [Region.wanted, yielded, undef]; done), rfl⟩) (HC.out _ D10.out) ?_
        try (simp only [Act.put, List.getElem_toArray, List.getElem_cons_succ, List.getElem_cons_zero, List.setIfInBounds_toArray, List.set_cons_zero, List.set_cons_succ])
        refine wpAnyH_take (i := 24) (v := .bool false) rfl (by kernel_rfl) (by kernel_rfl) (by kernel_rfl) (fun _ _ _ h => h) (Or.inl ⟨by simp [Region.wanted, yielded], fun W hW => by obtain ⟨s0, s1, s2⟩ := hW; go_simp⟩) (HC.out _ D10.out) ?_
        try (simp only [Act.put, List.getElem_toArray, List.getElem_cons_succ, List.getElem_cons_zero, List.setIfInBounds_toArray, List.set_cons_zero, List.set_cons_succ])
        refine wpAnyH_take (i := 25) (v := .bool false) rfl (by kernel_rfl) (by kernel_rfl) (by kernel_rfl) (fun _ _ _ h => h) (Or.inl ⟨by simp [Region.wanted, yielded], fun W hW => by obtain ⟨s0, s1, s2⟩ := hW; go_simp⟩) (HC.out _ D10.out) ?_
        try (simp only [Act.put, List.getElem_toArray, List.getElem_cons_succ, List.getElem_cons_zero, List.setIfInBounds_toArray, List.set_cons_zero, List.set_cons_succ])
        refine wpAnyH_done (by kernel_rfl) ?_ _
        have KF := D10
        have KT := Lib.hid (KZ.out.then KF.out)
        clear HC HBE HEQ HOF
        go_wp2_with fail
        refine (HTT.out _ KF.out).mono ?_
        rintro e x1 ⟨rfl, j1⟩
        have J1 := Lib.hid (KF.out.then j1); clear j1
        go_wp2_with fail
        refine (HTU.out _ J1.out).mono ?_
        rintro e x2 ⟨rfl, j2⟩
        have J2 := Lib.hid (J1.out.then j2); clear j2
        go_wp2_with fail
        refine (HUB.out _ J2.out).mono ?_
        rintro e x3 ⟨vu, rfl, hsu, j3⟩
        have J3 := Lib.hid (J2.out.then j3)
        have HEU := Lib.hid (HEQ2.out x3 vu J3.out hsu)
        clear hsu j3
        go_wp2_with fail
        refine HEU.out.mono ?_
        rintro e x4 ⟨rfl, q4, rfl⟩
        have J4 := Lib.hid (J3.out.then ((Kept.refl (fun _ => False) x3).drewN q4))
        generalize x3.drewN q4 = x4 at J4 ⊢
        go_wp2_with fail
        refine (HTU.out _ J4.out).mono ?_
        rintro e x5 ⟨rfl, j5⟩
        have J5 := Lib.hid (J4.out.then j5); clear j5
        go_wp2_with fail
        refine (HUT.out _ J5.out).mono ?_
        rintro e x6 ⟨rfl, j6⟩
        have J6 := Lib.hid (KZ.out.then (J5.out.then j6)); clear j6
        go_wp2_with fail
        go_ret
        exact ⟨by first | rfl | simp, J6.out⟩
  | some ys =>
    have HA := Lib.hid (add_ok w5 g1 mv1 ts p ys (HT3.out.tree.stay K35.out) (by omega) hn (by omega))
    have HAH := Lib.hid (HT3.out.both.add_has hn)
    have HAS := Lib.hid (HT3.out.both.add_same hn)
    have HAB := Lib.hid (HT3.out.both.add hn)
    generalize addL (fun k => pathS (ys.take k)) ys.length ts = as2 at HA HAH HAS HAB
    generalize addS want p = wantA at HAB
    clear hn
    go_wp2_with fail
    refine HA.out.mono ?_
    rintro e w6 ⟨g3, m3, rfl, ht6, hg3, hm3, _, k6⟩
    have K36 := Lib.hid (K35.out.then k6)
    have HT6 := Lib.hid ht6
    have HW6 := Lib.hid (HW5.out.kept k6 (fun _ _ h => h))
    obtain ⟨x40, x41, x42⟩ := HBX.out w6 (K3.out.then K36.out)
    clear k6 HA ht6
    go_wp2_with fail
    refine (HOF1.out w6 (K3.out.then K36.out)).mono ?_
    rintro e w7 ⟨rfl, k7⟩
    have K37 := Lib.hid (K36.out.then k7)
    have K67 := Lib.hid k7
    have HW7 := Lib.hid (HW6.out.kept k7 (fun _ _ h => h))
    clear k7 x40 x41 x42
    go_wp2_with fail
    refine (remove_some w7 g1 mv1 ts want p (HT3.out.tree.stay K37.out) HT3.out.both (by omega) (by omega)).mono ?_
    rintro e w8 ⟨rx, ry, rfl, k8⟩
    have K38 := Lib.hid (K37.out.then k8)
    have K68 := Lib.hid (K67.out.then k8)
    have HW8 := Lib.hid (HW7.out.kept k8 (fun _ _ h => h))
    clear k8
    go_wp2_with fail
    refine (below_rootL w8 g1 mv1 ts want (HT3.out.tree.stay K38.out) HT3.out.both (by omega)).mono ?_
    rintro e w9 ⟨vl, rfl, hol, k9⟩
    have K89 := Lib.hid k9
    obtain ⟨al, cl, rfl, _, hcl⟩ := (Strs.ofOwn hol).form
    obtain ⟨L, hL⟩ : ∃ L, L = want.length := ⟨_, rfl⟩
    have hLp : L = ts.length + 1 := by rw [hL]; exact HT3.out.both.len
    rw [← hL] at hol ⊢
    obtain ⟨gl, rfl⟩ : ∃ gl, al = some ⟨gl, 0, none⟩ := by
      rcases hol.own.2 with ⟨e0, _⟩ | ⟨g', cap, cur, e0, _⟩
      · injection e0 with e1 e2 e3; omega
      · cases e0; exact ⟨_, rfl⟩
    have hgl := (hol.bound gl rfl).1
    have HSP := Lib.hid (Spoil.start hol hL)
    have hLb : L ≤ 200 := by omega
    clear hol k9 hL hcl hLp
    go_wp2_with fail
    go_loopw [15, 51] (fun _ iv wr => ∃ k : Nat, k ≤ L ∧ iv = .int .i64 k ∧ Hid (Spoil w9 wr gl L)) (fun _ iv _ => L - (intOf iv).toNat)
    case atStart => exact ⟨0, by omega, rfl, HSP⟩
    case round =>
      obtain ⟨k, hk, rfl, hsp⟩ := hrel
      by_cases hlt : k < L
      · have l1 : (k : Int) < (L : Int) := by omega
        have l0 : (0 : Int) ≤ (k : Int) := by omega
        obtain ⟨s9, hs9⟩ := hsp.out.cell k hlt
        have hf9 := hsp.out.free k hlt
        have HSP1 := Lib.hid (hsp.out.put hlt ⟨#[115, 112, 111, 105, 108, 116]⟩)
        go_wp2_with fail
        go_roundw
        case rel => first | exact ⟨k + 1, by omega, by go_num, HSP1⟩ | ((repeat apply Exists.intro); exact ⟨⟨k + 1, by omega, by go_num, HSP1⟩, rfl⟩)
        case measure => simp [intOf]; omega
      · obtain rfl : k = L := by omega
        have k8z : Kept (fun _ => False) w8 wr := K89.out.trans hsp.out.kept (fun _ _ h => h) (fun i hi e => by have e : i = gl := e; omega)
        have K3Z := Lib.hid (K38.out.then k8z)
        have KZ := Lib.hid (HKX.out.then (K3.out.then K3Z.out))
        have HWZ := Lib.hid (HW8.out.kept k8z (fun _ _ h => h))
        have K8Z := Lib.hid k8z
        have K6W := Lib.hid (K68.out.then k8z)
        obtain ⟨wz, hwz⟩ : ∃ wz : World, wz = wr := ⟨_, rfl⟩
        rw [← hwz] at K3Z KZ HWZ K8Z K6W ⊢
        clear hwz hsp k8z HSP hgl
        have HC := Lib.hid (fun (W : World) (hk : Kept (fun _ => False) wz W) => HBX.out W (K3.out.then (K3Z.out.then hk)))
        have HOF := Lib.hid (fun (W : World) (hk : Kept (fun _ => False) wz W) => HOF1.out W (K3.out.then (K3Z.out.then hk)))
        have hz1 : ∀ s ∈ ts, s.size ≤ 1000000 := fun s hs => by have := HT3.out.small s ((HT3.out.both.mem s).2 (Or.inr hs)); omega
        have hz2 : ∀ s ∈ us, s.size ≤ 1000000 := fun s hs => by have := HU.out.small s ((HU.out.both.mem s).2 (Or.inr hs)); omega
        have HTZ := Lib.hid (fun (W : World) (hk : Kept (fun _ => False) wz W) => HT3.out.tree.stay (K3Z.out.then hk))
        have HUZ := Lib.hid (fun (W : World) (hk : Kept (fun _ => False) wz W) => HU.out.tree.stay (K3Z.out.then hk))
        have HBE := Lib.hid (fun (W : World) (hk : Kept (fun _ => False) wz W) => (below_rootL W g1 mv1 ts want (HTZ.out W hk) HT3.out.both (by omega)).mono (fun e w' (h : ∃ v, e = .returned v ∧ OwnS w' W.heap.size v want ∧ Kept (fun _ => False) W w') => (by obtain ⟨v, h1, h2, h3⟩ := h; exact ⟨v, h1, Strs.ofOwn h2, h3⟩ : ∃ v, e = .returned v ∧ Strs w' v want ∧ Kept (fun _ => False) W w')))
        have HUB := Lib.hid (fun (W : World) (hk : Kept (fun _ => False) wz W) => (below_rootL W g2 mv2 us want2 (HUZ.out W hk) HU.out.both (by omega)).mono (fun e w' (h : ∃ v, e = .returned v ∧ OwnS w' W.heap.size v want2 ∧ Kept (fun _ => False) W w') => (by obtain ⟨v, h1, h2, h3⟩ := h; exact ⟨v, h1, Strs.ofOwn h2, h3⟩ : ∃ v, e = .returned v ∧ Strs w' v want2 ∧ Kept (fun _ => False) W w')))
        have HEQ : Hid (∀ (W : World) (vb : Value), Kept (fun _ => False) wz W → Strs W vb want → Calls Tryd.prog 10 #[vb, vw] W fun e w' => e = .returned (.bool true) ∧ ∃ m, w' = W.drewN m) := fun W vb hk hs => by
          have := sequal_any vb vw want want W hs (HWZ.out.kept hk (fun _ _ h => h))
          rw [show decide (want = want) = true by simp] at this
          exact this
        have hbeq := HT3.out.both.equal HU.out.both
        have hbeq2 := HU.out.both.equal HT3.out.both
        rw [show decide (want2 = want) = decide (want = want2) from decide_eq_decide.2 ⟨Eq.symm, Eq.symm⟩] at hbeq2
        have hEQ2 := fun (W : World) (vu : Value) (hk : Kept (fun _ => False) wz W) (hs : Strs W vu want2) => sequal_any vw vu want want2 W (HWZ.out.kept hk (fun _ _ h => h)) hs
        generalize decide (want = want2) = B at hbeq hbeq2 hEQ2
        have HEQ2 := Lib.hid hEQ2
        have HTU := Lib.hid (fun (W : World) (hk : Kept (fun _ => False) wz W) => tequalP_any W g1 g2 mv1 mv2 ts us B (HTZ.out W hk) (HUZ.out W hk) HT3.out.both.nodup HU.out.both.nodup hz1 hbeq)
        have HUT := Lib.hid (fun (W : World) (hk : Kept (fun _ => False) wz W) => tequalP_any W g2 g1 mv2 mv1 us ts B (HUZ.out W hk) (HTZ.out W hk) HU.out.both.nodup HT3.out.both.nodup hz2 hbeq2)
        have HTT := Lib.hid (fun (W : World) (hk : Kept (fun _ => False) wz W) => tequalP_any W g1 g1 mv1 mv1 ts ts true (HTZ.out W hk) (HTZ.out W hk) HT3.out.both.nodup HT3.out.both.nodup hz1 (by simp))
        have hbb : (B == B) = true := by simp
        have HVZ := Lib.hid (fun (W : World) (hk : Kept (fun _ => False) wz W) => HT6.out.stay (K6W.out.then hk))
        have HVH := Lib.hid (fun (W : World) (hk : Kept (fun _ => False) wz W) => (by have := has_any W g3 _ as2 p (HVZ.out W hk) (by omega); rw [HAH.out] at this; exact this : Calls Tryd.prog 14 #[.pointer (some ⟨g3, 0, none⟩), .string p] W fun e w' => e = .returned (.bool true) ∧ W = w'))
        have hTH := fun (W : World) (hk : Kept (fun _ => False) wz W) => has_any W g1 mv1 ts p (HTZ.out W hk) (by omega)
        have has3 := HAS.out
        generalize hasS ts p = V at hTH has3
        have HTH := Lib.hid hTH
        have hz3 : ∀ s ∈ as2, s.size ≤ 1000000 := fun s hs => by obtain ⟨l, hl⟩ := isPath_names (HAB.out.paths s hs); have := path_size hl; omega
        have HVE := Lib.hid (fun (W : World) (hk : Kept (fun _ => False) wz W) => tequalP_any W g3 g1 _ mv1 as2 ts V (HVZ.out W hk) (HTZ.out W hk) HAB.out.nodup HT3.out.both.nodup hz3 has3)
        have hvv : (V != V) = false := by simp
        clear hTH has3 hz3
        clear hbeq hbeq2 hEQ2 hz1 hz2
        go_wp2_with fail
        have D8 := Lib.hid ((Kept.refl (fun _ => False) wz).drew)
        refine wp_region_held_drew (S := fun w' => w'.cell? ⟨bx, 0, none⟩ = some (.bool rm) ∧ w'.cell? ⟨bx, 1, none⟩ = some (.slice pa pn pc) ∧ w'.cell? ⟨bx, 2, none⟩ = some (.string raw)) (by kernel_rfl) (HC.out _ D8.out) (fun _ => ?_)
        refine wpAnyH_take (i := 0) (v := .pointer (some ⟨g1, 0, none⟩)) rfl (by kernel_rfl) (by kernel_rfl) (by kernel_rfl) (fun _ _ _ h => h) (Or.inl ⟨by simp [Region.wanted, yielded], fun W hW => by obtain ⟨s0, s1, s2⟩ := hW; go_simp⟩) (HC.out _ D8.out) ?_
        try (simp only [Act.put, List.getElem_toArray, List.getElem_cons_succ, List.getElem_cons_zero, List.setIfInBounds_toArray, List.set_cons_zero, List.set_cons_succ])
        refine wpAnyH_take (i := 2) (v := vw) rfl (by kernel_rfl) (by kernel_rfl) (by kernel_rfl) (fun _ _ _ h => h) (Or.inl ⟨by simp [Region.wanted, yielded], fun W hW => by obtain ⟨s0, s1, s2⟩ := hW; go_simp⟩) (HC.out _ D8.out) ?_
        try (simp only [Act.put, List.getElem_toArray, List.getElem_cons_succ, List.getElem_cons_zero, List.setIfInBounds_toArray, List.set_cons_zero, List.set_cons_succ])
        refine wpAnyH_ready (rs := [1]) (by kernel_rfl) (by simp) ?_
        refine AllReadyH.cons (o := _) rfl (fun KK hKK => ?_) AllReadyH.nil
        go_simp
        go_at_call 11
        refine (HBE.out _ D8.out).mono ?_
        rintro e wz9 ⟨vb, rfl, hsb, kz9⟩
        have D9 := Lib.hid (D8.out.then kz9)
        have HSB := Lib.hid hsb
        have HEQ9 := Lib.hid (HEQ.out wz9 vb D9.out hsb)
        clear kz9 hsb
        try go_wp2_with fail
        refine hKK.out _ _ (HC.out _ D9.out) (fun _ => ?_)
        clear hKK KK
        try (simp only [Act.put, List.getElem_toArray, List.getElem_cons_succ, List.getElem_cons_zero, List.setIfInBounds_toArray, List.set_cons_zero, List.set_cons_succ])
        refine wpAnyH_ready (rs := [3]) (by kernel_rfl) (by simp) ?_
        refine AllReadyH.cons (o := _) rfl (fun KK hKK => ?_) AllReadyH.nil
        go_simp
        go_at_call 10
        refine (HEQ9.out).mono ?_
        rintro e wz10 ⟨rfl, q10, rfl⟩
        have D10 := Lib.hid (D9.out.then ((Kept.refl (fun _ => False) wz9).drewN q10))
        try go_wp2_with fail
        refine hKK.out _ _ (HC.out _ D10.out) (fun _ => ?_)
        clear hKK KK
        try (simp only [Act.put, List.getElem_toArray, List.getElem_cons_succ, List.getElem_cons_zero, List.setIfInBounds_toArray, List.set_cons_zero, List.set_cons_succ])
        refine wpAnyH_take (i := 4) (v := .bool false) rfl (by kernel_rfl) (by kernel_rfl) (by kernel_rfl) (fun _ _ _ h => h) (Or.inl ⟨by simp [Region.wanted, yielded], fun W hW => by obtain ⟨s0, s1, s2⟩ := hW; go_simp⟩) (HC.out _ D10.out) ?_
        try (simp only [Act.put, List.getElem_toArray, List.getElem_cons_succ, List.getElem_cons_zero, List.setIfInBounds_toArray, List.set_cons_zero, List.set_cons_succ])
        refine wpAnyH_take (i := 5) (v := .bool false) rfl (by kernel_rfl) (by kernel_rfl) (by kernel_rfl) (fun _ _ _ h => h) (Or.inl ⟨by simp [Region.wanted, yielded], fun W hW => by obtain ⟨s0, s1, s2⟩ := hW; go_simp⟩) (HC.out _ D10.out) ?_
        try (simp only [Act.put, List.getElem_toArray, List.getElem_cons_succ, List.getElem_cons_zero, List.setIfInBounds_toArray, List.set_cons_zero, List.set_cons_succ])
        refine wpAnyH_take (i := 6) (v := .int .i64 0) rfl (by kernel_rfl) (by kernel_rfl) (by kernel_rfl) (fun _ _ _ h => h) (Or.inl ⟨by simp [Region.wanted, yielded], fun W hW => by obtain ⟨s0, s1, s2⟩ := hW; go_simp⟩) (HC.out _ D10.out) ?_
        try (simp only [Act.put, List.getElem_toArray, List.getElem_cons_succ, List.getElem_cons_zero, List.setIfInBounds_toArray, List.set_cons_zero, List.set_cons_succ])
        refine wpAnyH_take (i := 7) (v := .bool true) rfl (by kernel_rfl) (by kernel_rfl) (by kernel_rfl) (fun _ _ _ h => h) (Or.inl ⟨by simp [Region.wanted, yielded], fun W hW => by obtain ⟨s0, s1, s2⟩ := hW; go_simp⟩) (HC.out _ D10.out) ?_
        try (simp only [Act.put, List.getElem_toArray, List.getElem_cons_succ, List.getElem_cons_zero, List.setIfInBounds_toArray, List.set_cons_zero, List.set_cons_succ])
        refine wpAnyH_take (i := 8) (v := .bool true) rfl (by kernel_rfl) (by kernel_rfl) (by kernel_rfl) (fun _ _ _ h => h) (Or.inl ⟨by simp [Region.wanted, yielded], fun W hW => by obtain ⟨s0, s1, s2⟩ := hW; go_simp⟩) (HC.out _ D10.out) ?_
        try (simp only [Act.put, List.getElem_toArray, List.getElem_cons_succ, List.getElem_cons_zero, List.setIfInBounds_toArray, List.set_cons_zero, List.set_cons_succ])
        refine wpAnyH_take (i := 9) (v := .pointer (some ⟨g3, 0, none⟩)) rfl (by kernel_rfl) (by kernel_rfl) (by kernel_rfl) (fun _ _ _ h => h) (Or.inl ⟨by simp [Region.wanted, yielded], fun W hW => by obtain ⟨s0, s1, s2⟩ := hW; go_simp⟩) (HC.out _ D10.out) ?_
        try (simp only [Act.put, List.getElem_toArray, List.getElem_cons_succ, List.getElem_cons_zero, List.setIfInBounds_toArray, List.set_cons_zero, List.set_cons_succ])
        refine wpAnyH_take (i := 10) (v := .agg #[.bool rm, .slice pa pn pc, .string raw]) rfl (by kernel_rfl) (by kernel_rfl) (by kernel_rfl) (fun _ _ _ h => h) (Or.inl ⟨by simp [Region.wanted, yielded], fun W hW => by obtain ⟨s0, s1, s2⟩ := hW; go_simp⟩) (HC.out _ D10.out) ?_
        try (simp only [Act.put, List.getElem_toArray, List.getElem_cons_succ, List.getElem_cons_zero, List.setIfInBounds_toArray, List.set_cons_zero, List.set_cons_succ])
        refine wpAnyH_ready (rs := [11]) (by kernel_rfl) (by simp) ?_
        refine AllReadyH.cons (o := _) rfl (fun KK hKK => ?_) AllReadyH.nil
        go_simp
        go_at_call 20
        refine (HOF.out _ D10.out).mono ?_
        rintro e wz11 ⟨rfl, kz11⟩
        have D11 := Lib.hid (D10.out.then kz11); clear kz11
        try go_wp2_with fail
        refine hKK.out _ _ (HC.out _ D11.out) (fun _ => ?_)
        clear hKK KK
        try (simp only [Act.put, List.getElem_toArray, List.getElem_cons_succ, List.getElem_cons_zero, List.setIfInBounds_toArray, List.set_cons_zero, List.set_cons_succ])
        refine wpAnyH_ready (rs := [12]) (by kernel_rfl) (by simp) ?_
        refine AllReadyH.cons (o := _) rfl (fun KK hKK => ?_) AllReadyH.nil
        go_simp
        go_at_call 14
        refine (HVH.out _ D11.out).mono ?_
        rintro e wz12 ⟨rfl, rfl⟩

        try go_wp2_with fail
        refine hKK.out _ _ (HC.out _ D11.out) (fun _ => ?_)
        clear hKK KK
        try (simp only [Act.put, List.getElem_toArray, List.getElem_cons_succ, List.getElem_cons_zero, List.setIfInBounds_toArray, List.set_cons_zero, List.set_cons_succ])
        refine wpAnyH_take (i := 13) (v := .bool false) rfl (by kernel_rfl) (by kernel_rfl) (by kernel_rfl) (fun _ _ _ h => h) (Or.inl ⟨by simp [Region.wanted, yielded], fun W hW => by obtain ⟨s0, s1, s2⟩ := hW; go_simp⟩) (HC.out _ D11.out) ?_
        try (simp only [Act.put, List.getElem_toArray, List.getElem_cons_succ, List.getElem_cons_zero, List.setIfInBounds_toArray, List.set_cons_zero, List.set_cons_succ])
        refine wpAnyH_take (i := 14) (v := .bool false) rfl (by kernel_rfl) (by kernel_rfl) (by kernel_rfl) (fun _ _ _ h => h) (Or.inl ⟨by simp [Region.wanted, yielded], fun W hW => by obtain ⟨s0, s1, s2⟩ := hW; go_simp⟩) (HC.out _ D11.out) ?_
        try (simp only [Act.put, List.getElem_toArray, List.getElem_cons_succ, List.getElem_cons_zero, List.setIfInBounds_toArray, List.set_cons_zero, List.set_cons_succ])
        refine wpAnyH_take (i := 15) (v := .pointer (some ⟨g3, 0, none⟩)) rfl (by kernel_rfl) (by kernel_rfl) (by kernel_rfl) (fun _ _ _ h => h) (Or.inl ⟨by simp [Region.wanted, yielded], fun W hW => by obtain ⟨s0, s1, s2⟩ := hW; go_simp⟩) (HC.out _ D11.out) ?_
        try (simp only [Act.put, List.getElem_toArray, List.getElem_cons_succ, List.getElem_cons_zero, List.setIfInBounds_toArray, List.set_cons_zero, List.set_cons_succ])
        refine wpAnyH_take (i := 16) (v := .pointer (some ⟨g1, 0, none⟩)) rfl (by kernel_rfl) (by kernel_rfl) (by kernel_rfl) (fun _ _ _ h => h) (Or.inl ⟨by simp [Region.wanted, yielded], fun W hW => by obtain ⟨s0, s1, s2⟩ := hW; go_simp⟩) (HC.out _ D11.out) ?_
        try (simp only [Act.put, List.getElem_toArray, List.getElem_cons_succ, List.getElem_cons_zero, List.setIfInBounds_toArray, List.set_cons_zero, List.set_cons_succ])
        refine wpAnyH_take (i := 18) (v := .pointer (some ⟨g1, 0, none⟩)) rfl (by kernel_rfl) (by kernel_rfl) (by kernel_rfl) (fun _ _ _ h => h) (Or.inl ⟨by simp [Region.wanted, yielded], fun W hW => by obtain ⟨s0, s1, s2⟩ := hW; go_simp⟩) (HC.out _ D11.out) ?_
        try (simp only [Act.put, List.getElem_toArray, List.getElem_cons_succ, List.getElem_cons_zero, List.setIfInBounds_toArray, List.set_cons_zero, List.set_cons_succ])
        refine wpAnyH_take (i := 19) (v := .agg #[.bool rm, .slice pa pn pc, .string raw]) rfl (by kernel_rfl) (by kernel_rfl) (by kernel_rfl) (fun _ _ _ h => h) (Or.inl ⟨by simp [Region.wanted, yielded], fun W hW => by obtain ⟨s0, s1, s2⟩ := hW; go_simp⟩) (HC.out _ D11.out) ?_
        try (simp only [Act.put, List.getElem_toArray, List.getElem_cons_succ, List.getElem_cons_zero, List.setIfInBounds_toArray, List.set_cons_zero, List.set_cons_succ])
        refine wpAnyH_ready (rs := [17]) (by kernel_rfl) (by simp) ?_
        refine AllReadyH.cons (o := _) rfl (fun KK hKK => ?_) AllReadyH.nil
        go_simp
        go_at_call 22
        refine (HVE.out _ D11.out).mono ?_
        rintro e wz13 ⟨rfl, kz13⟩
        have D13 := Lib.hid (D11.out.then kz13); clear kz13
        try go_wp2_with fail
        refine hKK.out _ _ (HC.out _ D13.out) (fun _ => ?_)
        clear hKK KK
        try (simp only [Act.put, List.getElem_toArray, List.getElem_cons_succ, List.getElem_cons_zero, List.setIfInBounds_toArray, List.set_cons_zero, List.set_cons_succ])
        refine wpAnyH_ready (rs := [20]) (by kernel_rfl) (by simp) ?_
        refine AllReadyH.cons (o := _) rfl (fun KK hKK => ?_) AllReadyH.nil
        go_simp
        go_at_call 20
        refine (HOF.out _ D13.out).mono ?_
        rintro e wz14 ⟨rfl, kz14⟩
        have D14 := Lib.hid (D13.out.then kz14); clear kz14
        try go_wp2_with fail
        refine hKK.out _ _ (HC.out _ D14.out) (fun _ => ?_)
        clear hKK KK
        try (simp only [Act.put, List.getElem_toArray, List.getElem_cons_succ, List.getElem_cons_zero, List.setIfInBounds_toArray, List.set_cons_zero, List.set_cons_succ])
        refine wpAnyH_ready (rs := [21]) (by kernel_rfl) (by simp) ?_
        refine AllReadyH.cons (o := _) rfl (fun KK hKK => ?_) AllReadyH.nil
        go_simp
        go_at_call 14
        refine (HTH.out _ D14.out).mono ?_
        rintro e wz15 ⟨rfl, rfl⟩

        try go_wp2_with fail
        refine hKK.out _ _ (HC.out _ D14.out) (fun _ => ?_)
        clear hKK KK
        try (simp only [Act.put, List.getElem_toArray, List.getElem_cons_succ, List.getElem_cons_zero, List.setIfInBounds_toArray, List.set_cons_zero, List.set_cons_succ])
        refine wpAnyH_take (i := 22) (v := .bool false) rfl (by kernel_rfl) (by kernel_rfl) (by kernel_rfl) (fun _ _ _ h => h) (Or.inl ⟨by simp [Region.wanted, yielded], fun W hW => by obtain ⟨s0, s1, s2⟩ := hW; go_simp⟩) (HC.out _ D14.out) ?_
        try (simp only [Act.put, List.getElem_toArray, List.getElem_cons_succ, List.getElem_cons_zero, List.setIfInBounds_toArray, List.set_cons_zero, List.set_cons_succ])
        refine wpAnyH_take (i := 23) (v := .bool false) rfl (by kernel_rfl) (by kernel_rfl) (by kernel_rfl) (fun _ _ _ h => h) (Or.inl ⟨by simp [Region.wanted, yielded], fun W hW => by obtain ⟨s0, s1, s2⟩ := hW; go_simp⟩) (HC.out _ D14.out) ?_
        try (simp only [Act.put, List.getElem_toArray, List.getElem_cons_succ, List.getElem_cons_zero, List.setIfInBounds_toArray, List.set_cons_zero, List.set_cons_succ])
        refine wpAnyH_take (i := 24) (v := .bool false) rfl (by kernel_rfl) (by kernel_rfl) (by kernel_rfl) (fun _ _ _ h => h) (Or.inl ⟨by simp [Region.wanted, yielded], fun W hW => by obtain ⟨s0, s1, s2⟩ := hW; go_simp⟩) (HC.out _ D14.out) ?_
        try (simp only [Act.put, List.getElem_toArray, List.getElem_cons_succ, List.getElem_cons_zero, List.setIfInBounds_toArray, List.set_cons_zero, List.set_cons_succ])
        refine wpAnyH_take (i := 25) (v := .bool false) rfl (by kernel_rfl) (by kernel_rfl) (by kernel_rfl) (fun _ _ _ h => h) (Or.inl ⟨by simp [Region.wanted, yielded], fun W hW => by obtain ⟨s0, s1, s2⟩ := hW; go_simp⟩) (HC.out _ D14.out) ?_
        try (simp only [Act.put, List.getElem_toArray, List.getElem_cons_succ, List.getElem_cons_zero, List.setIfInBounds_toArray, List.set_cons_zero, List.set_cons_succ])
        refine wpAnyH_done (by kernel_rfl) ?_ _
        have KF := D14
        have KT := Lib.hid (KZ.out.then KF.out)
        clear HC HBE HEQ HOF
        go_wp2_with fail
        refine (HTT.out _ KF.out).mono ?_
        rintro e x1 ⟨rfl, j1⟩
        have J1 := Lib.hid (KF.out.then j1); clear j1
        go_wp2_with fail
        refine (HTU.out _ J1.out).mono ?_
        rintro e x2 ⟨rfl, j2⟩
        have J2 := Lib.hid (J1.out.then j2); clear j2
        go_wp2_with fail
        refine (HUB.out _ J2.out).mono ?_
        rintro e x3 ⟨vu, rfl, hsu, j3⟩
        have J3 := Lib.hid (J2.out.then j3)
        have HEU := Lib.hid (HEQ2.out x3 vu J3.out hsu)
        clear hsu j3
        go_wp2_with fail
        refine HEU.out.mono ?_
        rintro e x4 ⟨rfl, q4, rfl⟩
        have J4 := Lib.hid (J3.out.then ((Kept.refl (fun _ => False) x3).drewN q4))
        generalize x3.drewN q4 = x4 at J4 ⊢
        go_wp2_with fail
        refine (HTU.out _ J4.out).mono ?_
        rintro e x5 ⟨rfl, j5⟩
        have J5 := Lib.hid (J4.out.then j5); clear j5
        go_wp2_with fail
        refine (HUT.out _ J5.out).mono ?_
        rintro e x6 ⟨rfl, j6⟩
        have J6 := Lib.hid (KZ.out.then (J5.out.then j6)); clear j6
        go_wp2_with fail
        go_ret
        exact ⟨by first | rfl | simp, J6.out⟩
end Go.Proofs.YtndedphkgkmckaaDoor
