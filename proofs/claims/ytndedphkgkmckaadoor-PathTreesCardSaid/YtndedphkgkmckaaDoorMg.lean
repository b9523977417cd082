/- The first texts of this claim, one behind the other. -/
import Derived.Test.YtndedphkgkmckaaDoorPaLo
import Derived.Test.YtndedphkgkmckaaDoorPaQ
import Derived.Test.YtndedphkgkmckaaDoorPaC
import Derived.Test.YtndedphkgkmckaaDoorPaAw
import Derived.Test.YtndedphkgkmckaaDoorPaLs
import Derived.Test.YtndedphkgkmckaaDoorPaX
import Derived.Test.YtndedphkgkmckaaDoorPaRa
import Derived.Test.YtndedphkgkmckaaDoorPaRm
import Derived.Test.YtndedphkgkmckaaDoorPaRp
import Derived.OpenShut
import Derived.ChangeMaps5
import Derived.Lib.SmallJoins
import Derived.Deep.RegionHeld3
import Derived.Test.YtndedphkgkmckaaDoorPaBe
import Derived.Test.YtndedphkgkmckaaDoorPaRf
import Derived.Test.YtndedphkgkmckaaDoorStO
import Derived.Test.YtndedphkgkmckaaDoorArgIn
import Derived.SliceStrings
import Derived.Deep.AppendLies
/-
  The reference's Make: a path for bytes.
-/
namespace Go.Proofs.YtndedphkgkmckaaDoor
open Go.RowKit
set_option linter.unusedSimpArgs false
set_option linter.unusedVariables false

def nmL : List ByteArray := [⟨#[97]⟩, ⟨#[98]⟩, ⟨#[97, 98]⟩, ⟨#[97, 45, 98]⟩, ⟨#[99, 46, 100]⟩]
def nmS (b : Nat) : ByteArray := nmL.getD (b % 5) ⟨#[]⟩
/-- The names that bytes say. -/
def mkL (xs : List Nat) : List ByteArray := ((xs.drop 1).take (xs.getD 0 0 % 5)).map nmS
def makeS (xs : List Nat) : ByteArray := pathS (mkL xs)
theorem nmS_name (b : Nat) : nameS (nmS b) = true := by
  unfold nmS
  have h : ∀ k : Fin 5, nameS (nmL.getD k.val ⟨#[]⟩) = true := by decide +kernel
  exact h ⟨b % 5, Nat.mod_lt _ (by omega)⟩
theorem mkL_names (xs : List Nat) : (mkL xs).all nameS = true := by
  rw [List.all_eq_true]
  intro x hx
  unfold mkL at hx
  obtain ⟨b, _, rfl⟩ := List.mem_map.1 hx
  exact nmS_name b
theorem mkL_length (xs : List Nat) : (mkL xs).length = min (xs.getD 0 0 % 5) (xs.length - 1) := by unfold mkL; simp
theorem mkL_le (xs : List Nat) : (mkL xs).length ≤ 4 := by rw [mkL_length]; have := Nat.mod_lt (xs.getD 0 0) (show 0 < 5 by omega); omega
theorem makeS_names (xs : List Nat) : namesS (makeS xs) = some (mkL xs) := namesS_path (mkL_names xs) (by have := mkL_le xs; omega)
theorem makeS_path (xs : List Nat) : IsPath (makeS xs) := by unfold IsPath; rw [makeS_names]; rfl

theorem take_map_next (xs : List Nat) (k : Nat) (hk : k + 1 < xs.length) : (((xs.drop 1).take (k + 1)).map nmS) = (((xs.drop 1).take k).map nmS) ++ [nmS (xs.getD (k + 1) 0)] := by
  have h1 : k < (xs.drop 1).length := by rw [List.length_drop]; omega
  rw [List.take_add_one, List.map_append, List.getElem?_eq_getElem h1]
  simp [List.getD, hk, Nat.add_comm]

set_option maxRecDepth 100000 in
set_option maxHeartbeats 3200000 in
theorem make_any (v : Value) (xs : List Nat) (B : Nat) (w : World) (h : Loose w v xs B) (hx : ∀ x ∈ xs, x < 256) (hl : xs.length ≤ maxLen) :
    Calls Tryd.prog 25 #[v] w fun e w' => e = .returned (.string (makeS xs)) ∧ Kept (fun _ => False) w w' := by
  obtain ⟨a, c, rfl⟩ := h.form
  have HL := Lib.hid h
  have HX := Lib.hid hx
  have HM := Lib.hid (mkL_length xs)
  have HML := Lib.hid (mkL_le xs)
  have HNM := Lib.hid (mkL_names xs)
  unfold maxLen at hl
  obtain ⟨V, hV⟩ : ∃ V, V = makeS xs := ⟨_, rfl⟩
  rw [← hV]
  have HV := Lib.hid hV
  obtain ⟨n, hn⟩ : ∃ n, n = xs.length := ⟨_, rfl⟩
  rw [← hn] at HL hl ⊢
  have HN := Lib.hid hn
  have hnb : n ≤ 9223372036854775807 := by omega
  obtain ⟨r0, hr0⟩ : ∃ r, r = xs.getD 0 0 % 5 := ⟨_, rfl⟩
  have hr5 : r0 < 5 := by rw [hr0]; exact Nat.mod_lt _ (by omega)
  have HR0 := Lib.hid hr0
  clear h hx hV hn hl hr0
  go_enter Tryd.func25, Tryd.ntmps25
  go_wp2_with fail
  go_loopw [3, 4] (fun lv iv wr => ∃ (k : Nat) (aa : Option Addr) (cc : Nat), k ≤ r0 ∧ (k = 0 ∨ k < n) ∧ iv = .int .i64 (k + 1 : Nat) ∧ lv = .slice aa k cc ∧ Hid (OwnS wr w.heap.size (.slice aa k cc) (((xs.drop 1).take k).map nmS)) ∧ Hid (Kept (fun _ => False) w wr)) (fun _ iv _ => n + 1 - (intOf iv).toNat)
  case atStart => exact ⟨0, none, 0, by omega, Or.inl rfl, rfl, rfl, OwnS.nil _ _, Kept.refl _ _⟩
  case round =>
    obtain ⟨k, aa, cc, hkr, hkn, rfl, rfl, ho, hkw⟩ := hrel
    by_cases hlt : k + 1 < n
    · have l1 : ((k + 1 : Nat) : Int) < (n : Int) := by omega
      obtain ⟨g, off, rfl, hc0⟩ := (HL.out.kept hkw.out (fun _ _ h => h)).at (k := 0) (by have := HN.out; omega)
      obtain ⟨g', off', e, hc1⟩ := (HL.out.kept hkw.out (fun _ _ h => h)).at (k := k + 1) (by have := HN.out; omega)
      obtain ⟨rfl, rfl⟩ : g = g' ∧ off = off' := by cases e; exact ⟨rfl, rfl⟩
      have hb0 : xs.getD 0 0 < 256 := HX.out _ (by rw [List.getD_eq_getElem?_getD, List.getElem?_eq_getElem (by have := HN.out; omega)]; exact List.getElem_mem _)
      have hb1 : xs.getD (k + 1) 0 < 256 := HX.out _ (by rw [List.getD_eq_getElem?_getD, List.getElem?_eq_getElem (by have := HN.out; omega)]; exact List.getElem_mem _)
      have hnext := take_map_next xs k (by have := HN.out; omega)
      have hnm : nmS (xs.getD (k + 1) 0) = nmL.getD (xs.getD (k + 1) 0 % 5) ⟨#[]⟩ := rfl
      have hr0 := HR0.out
      obtain ⟨b0, hb0e⟩ : ∃ b, b = xs.getD 0 0 := ⟨_, rfl⟩
      obtain ⟨b1, hb1e⟩ : ∃ b, b = xs.getD (k + 1) 0 := ⟨_, rfl⟩
      rw [← hb0e] at hc0 hb0 hr0
      rw [← hb1e] at hc1 hb1 hnext hnm
      have HNX := Lib.hid hnext
      rw [Nat.add_zero] at hc0
      have q0 : (b0 : Int) % 5 = (r0 : Int) := by omega
      have q0t : (b0 : Int).tmod 5 = (r0 : Int) := by rw [Int.tmod_eq_emod_of_nonneg (by omega)]; exact q0
      clear e hb0e hb1e hr0 hnext
      by_cases hle : k + 1 ≤ r0
      · have l2 : ((k + 1 : Nat) : Int) ≤ (r0 : Int) := by omega
        have hkk : IntKind.i64.wrap (r0 : Int) = (r0 : Int) := IntWalk.i64_in _ (by omega)
        have hgl : g < wr.heap.size := World.block_lt_of_cell? wr _ hc0
        have hgn : ¬ g = wr.heap.size := by omega
        have hal : (((xs.drop 1).take k).map nmS).length = k := by
          have := HN.out
          simp
          omega
        generalize hbk : ((xs.drop 1).take k).map nmS = acc at ho HNX hal
        have HBK := Lib.hid hbk
        have HAL := Lib.hid hal
        have HSZ := Lib.hid hkw.out.size
        clear hbk hal
        obtain ⟨q, hq, hq5⟩ : ∃ q, q = b1 % 5 ∧ q < 5 := ⟨_, rfl, Nat.mod_lt _ (by omega)⟩
        rw [← hq] at hnm
        have q1 : (b1 : Int) % 5 = (q : Int) := by omega
        have q1t : (b1 : Int).tmod 5 = (q : Int) := by rw [Int.tmod_eq_emod_of_nonneg (by omega)]; exact q1
        obtain ⟨x, hx⟩ : ∃ x, x = nmS b1 := ⟨_, rfl⟩
        rw [← hx] at HNX hnm
        have HQ := Lib.hid hq
        have HXX := Lib.hid hx
        clear hq hx
        have h5 : q = 0 ∨ q = 1 ∨ q = 2 ∨ q = 3 ∨ q = 4 := by omega
        rcases h5 with rfl | rfl | rfl | rfl | rfl
        all_goals
          have hxl := hnm
          unfold nmL at hxl
          simp at hxl
          have HXL := Lib.hid hxl
          clear hnm hxl
          go_wp2_with (at_builtin; refine wpList_pushS (by rfl) _ _ rfl rfl w.heap.size _ acc (wr.heap.size + 1) x rfl (by first | rfl | (go_simp; done)) ((ho.out.alloc _).alloc _) (by rw [HXL.out]; go_simp) (by have := HAL.out; omega) (by have := HSZ.out; simp; omega) ?_)
          intro a' c' w4 hown hk4
          have hrow : OwnS w4 w.heap.size (.slice a' (k + 1) c') (((xs.drop 1).take (k + 1)).map nmS) := by
            have h2 := hown
            rw [HAL.out, ← HNX.out] at h2
            exact h2
          have HR4 := Lib.hid hrow
          have HK4 : Hid (Kept (fun _ => False) w w4) := ((hkw.out.then (Kept.alloc _ _ _)).then (Kept.alloc _ _ _)).trans hk4 (fun _ _ h => h) (fun i hi e => by have := (ho.out.bound i e).1; omega)
          have hl := HAL.out
          clear hown hk4 hrow
          go_wp2_with fail
          go_roundw
          case rel => first | exact ⟨k + 1, a', c', hle, Or.inr hlt, by go_num, by rw [hl], HR4, HK4⟩ | ((repeat apply Exists.intro); exact ⟨⟨k + 1, a', c', hle, Or.inr hlt, by go_num, by rw [hl], HR4, HK4⟩, rfl⟩)
          case measure => simp [intOf]; omega
      · have l2 : ¬ ((k + 1 : Nat) : Int) ≤ (r0 : Int) := by omega
        have hkk : IntKind.i64.wrap (r0 : Int) = (r0 : Int) := IntWalk.i64_in _ (by omega)
        have hend : ((xs.drop 1).take k).map nmS = mkL xs := by
          unfold mkL
          rw [← HR0.out, show k = r0 by omega]
        have hstr : Strs wr (.slice aa k cc) (mkL xs) := by
          have := Strs.ofOwn (xs := mkL xs) (v := .slice aa k cc) (W := wr) (B := w.heap.size) (by have h2 := ho.out; rw [hend] at h2; exact ⟨by have h3 := h2.own; first | exact h3 | simpa using h3⟩)
          exact this
        have hqo := qof_any (.slice aa k cc) (mkL xs) wr hstr (by have := HML.out; omega) (fun y hy => by have := nameL_len (List.all_eq_true.1 HNM.out y hy); have e : y.size = y.data.toList.length := rfl; omega)
        obtain rfl : V = pathS (mkL xs) := HV.out
        have HQ := Lib.hid hqo
        clear hqo hstr hend ho
        go_wp2_with fail
        refine HQ.out.mono ?_
        rintro e w2 ⟨rfl, rfl⟩
        go_wp2_with fail
        go_ret
        exact ⟨rfl, hkw.out⟩
    · have l1 : ¬ ((k + 1 : Nat) : Int) < (n : Int) := by omega
      have hend : ((xs.drop 1).take k).map nmS = mkL xs := by
        unfold mkL
        rw [← HR0.out, List.take_of_length_le (by rw [List.length_drop, ← HN.out]; omega), List.take_of_length_le (by rw [List.length_drop, ← HN.out]; omega)]
      have hstr : Strs wr (.slice aa k cc) (mkL xs) := by
        have := Strs.ofOwn (xs := mkL xs) (v := .slice aa k cc) (W := wr) (B := w.heap.size) (by have h2 := ho.out; rw [hend] at h2; exact ⟨by have h3 := h2.own; first | exact h3 | simpa using h3⟩)
        exact this
      have hqo := qof_any (.slice aa k cc) (mkL xs) wr hstr (by have := HML.out; omega) (fun y hy => by have := nameL_len (List.all_eq_true.1 HNM.out y hy); have e : y.size = y.data.toList.length := rfl; omega)
      obtain rfl : V = pathS (mkL xs) := HV.out
      have HQ := Lib.hid hqo
      clear hqo hstr hend ho
      go_wp2_with fail
      refine HQ.out.mono ?_
      rintro e w2 ⟨rfl, rfl⟩
      go_wp2_with fail
      go_ret
      exact ⟨rfl, hkw.out⟩
end Go.Proofs.YtndedphkgkmckaaDoor
/-
  arbaclaw07.awake; arbaclaw07.cut.
-/
namespace Go.Proofs.YtndedphkgkmckaaDoor
open Go.RowKit Go.Maps Go.WideMaps Go.ChangeMaps
set_option linter.unusedSimpArgs false
set_option linter.unusedVariables false

theorem newTreeL_any (w : World) : Calls Tryd.prog 33 #[] w fun e w' => ∃ g, e = .returned (.pointer (some ⟨g, 0, none⟩)) ∧ TreeL w' g (.map none) [] ∧ w.heap.size ≤ g ∧ Kept (fun _ => False) w w' := by
  refine (newTree_any w).mono ?_
  rintro e w' ⟨g, rfl, ht, h1, h2⟩
  exact ⟨g, rfl, ht, h1, h2⟩

theorem aw_children (w : World) (g : Nat) (mv : Value) (h : TreeL w g mv [sAC, sA, sAB]) :
    Calls Tryd.prog 16 #[.pointer (some ⟨g, 0, none⟩), .string sA] w fun e w' => ∃ v, e = .returned v ∧ Strs w' v [sAB, sAC] ∧ Kept (fun _ => False) w w' := by
  refine (children_any w g mv _ sA h tree_paths (by simp)).mono ?_
  rintro e w' ⟨v, r, rfl, hr⟩
  have : r = [sAB, sAC] := sortedP_unique hr.sorted sortedABAC fun x => by
    rw [hr.mem x]
    constructor
    · rintro ⟨h1, h2⟩
      simp at h1
      rcases h1 with rfl | rfl | rfl
      · simp
      · rw [kA] at h2; exact absurd h2 (by simp)
      · simp
    · intro h1
      simp at h1
      rcases h1 with rfl | rfl
      · exact ⟨by simp, kAB⟩
      · exact ⟨by simp, kAC⟩
  subst this
  exact ⟨v, rfl, hr.row, hr.kept⟩

theorem aw_equal (w : World) (v : Value) (xs : List ByteArray) (cs : Array Value) (T : TypeId) (n : Nat) (hn : n = xs.length) (hcs : cs.toList = xs.map Value.string) (hm : n ≤ maxLen) (h : Strs w v xs) :
    Calls Tryd.prog 10 #[v, .slice (some ⟨w.heap.size, 0, none⟩) n n] (w.alloc (.cells cs T)) fun e w' => e = .returned (.bool true) ∧ Kept (fun _ => False) w w' := by
  have := sequal_any v (.slice (some ⟨w.heap.size, 0, none⟩) n n) xs xs (w.alloc (.cells cs T)) (h.kept (Kept.alloc (fun _ => False) _ _) (fun _ _ h => h)) (strs_new w cs T n xs hn hcs hm)
  rw [show decide (xs = xs) = true by simp] at this
  refine this.mono ?_
  rintro e w' ⟨rfl, m, rfl⟩
  exact ⟨rfl, (Kept.alloc (fun _ => False) w (.cells cs T)).drewN m⟩

set_option maxRecDepth 100000 in
set_option maxHeartbeats 3200000 in
theorem awake7_any (w : World) : Calls Tryd.prog 7 #[] w fun e w' => e = .returned (.bool true) ∧ Kept (fun _ => False) w w' := by
  have hCO : ∀ W, Calls Tryd.prog 32 #[.string sAB, .string sAC] W fun e w' => e = .returned (.tuple #[.string ⟨#[47, 97]⟩, .bool true]) ∧ Kept (fun _ => False) W w' := fun W => by
    have := common_any sAB sAC (by decide) (by decide) W
    rw [cAC] at this
    exact this
  have hA1 : ∀ W g, TreeL W g (.map none) [] → Calls Tryd.prog 19 #[.pointer (some ⟨g, 0, none⟩), .string sAB] W fun e w' => ∃ g' m', e = .returned (.tuple #[.pointer (some ⟨g', 0, none⟩), .int .i64 0]) ∧ TreeL w' g' (.map (some m')) [sA, sAB] ∧ Kept (fun _ => False) W w' := fun W g h => by
    refine (add_ok W g _ [] sAB _ h (by decide) nAB (by simp)).mono ?_
    rintro e w' ⟨g', m', rfl, ht, _, _, _, hk⟩
    exact ⟨g', m', rfl, by rw [← add1]; exact ht, hk⟩
  have hA2 : ∀ W g m, TreeL W g (.map (some m)) [sA, sAB] → Calls Tryd.prog 19 #[.pointer (some ⟨g, 0, none⟩), .string sAC] W fun e w' => ∃ g' m', e = .returned (.tuple #[.pointer (some ⟨g', 0, none⟩), .int .i64 0]) ∧ TreeL w' g' (.map (some m')) [sAC, sA, sAB] ∧ Kept (fun _ => False) W w' := fun W g m h => by
    refine (add_ok W g _ [sA, sAB] sAC _ h (by decide) nAC (by simp)).mono ?_
    rintro e w' ⟨g', m', rfl, ht, _, _, _, hk⟩
    exact ⟨g', m', rfl, by rw [← add2]; exact ht, hk⟩
  have hRM : ∀ W g m, TreeL W g (.map (some m)) [sAC, sA, sAB] → Calls Tryd.prog 21 #[.pointer (some ⟨g, 0, none⟩), .string sA] W fun e w' => e = .returned (.tuple #[.pointer none, .int .i64 7]) ∧ Kept (fun _ => False) W w' := fun W g m h =>
    remove_state W g _ _ sA h tree_paths (by simp) (by decide) (by rw [nA]; rfl) (by rw [ByteArray.toList_eq]; decide) (by kernel_rfl) ⟨sAB, by simp, kAB⟩
  have hV1 : ∀ W, Calls Tryd.prog 34 #[.string sABC] W fun e w' => e = .returned (.bool true) ∧ Kept (fun _ => False) W w' := fun W => by
    have := pvalid_any sABC (by decide) W
    rw [nABC] at this; exact this
  have hV2 : ∀ W, Calls Tryd.prog 34 #[.string sAs] W fun e w' => e = .returned (.bool false) ∧ Kept (fun _ => False) W w' := fun W => by
    have := pvalid_any sAs (by decide) W
    rw [nAs] at this; exact this
  have hNA : ∀ W, Calls Tryd.prog 35 #[.string sABC] W fun e w' => ∃ v, e = .returned v ∧ Strs w' v [⟨#[97]⟩, ⟨#[98, 46, 99]⟩] ∧ Kept (fun _ => False) W w' := fun W => by
    refine (pnames_any sABC (by decide) W).mono ?_
    rintro e w' ⟨v, rfl, hr⟩
    have := hr.row
    rw [nABC] at this
    exact ⟨v, rfl, this, hr.kept⟩
  have hW1 : ∀ W, Calls Tryd.prog 27 #[.string sab, .string sA] W fun e w' => e = .returned (.bool false) ∧ Kept (fun _ => False) W w' := fun W => by
    have := within_any sab sA (by decide) (by decide) W
    rw [wab] at this; exact this
  have hW2 : ∀ W, Calls Tryd.prog 27 #[.string sAB, .string sA] W fun e w' => e = .returned (.bool true) ∧ Kept (fun _ => False) W w' := fun W => by
    have := within_any sAB sA (by decide) (by decide) W
    rw [wAB] at this; exact this
  have hCM : ∀ W, Calls Tryd.prog 36 #[.string sAB, .string sAdB] W fun e w' => e = .returned (.int .i64 (-1)) ∧ Kept (fun _ => False) W w' := fun W => by
    refine (compare_any sAB sAdB (by decide) (by decide) W).mono ?_
    rintro e w' ⟨rfl, hk, _⟩
    rw [cmpAd]
    exact ⟨rfl, hk⟩
  have HCO := Lib.hid hCO; have HA1 := Lib.hid hA1; have HA2 := Lib.hid hA2; have HRM := Lib.hid hRM; have HV1 := Lib.hid hV1; have HV2 := Lib.hid hV2
  have HNA := Lib.hid hNA; have HW1 := Lib.hid hW1; have HW2 := Lib.hid hW2; have HCM := Lib.hid hCM
  clear hCO hA1 hA2 hRM hV1 hV2 hNA hW1 hW2 hCM
  go_enter Tryd.func7, Tryd.ntmps7
  go_wp2_with fail
  refine (HCO.out _).mono ?_
  rintro e w1 ⟨rfl, k1⟩
  have K1 := Lib.hid k1; clear k1
  go_wp2_with fail
  refine (newTreeL_any _).mono ?_
  rintro e w2 ⟨g2, rfl, t2, _, k2⟩
  have K2 := Lib.hid (K1.out.then k2); have T2 := Lib.hid t2; clear k2 t2
  go_wp2_with fail
  refine (HA1.out _ _ T2.out).mono ?_
  rintro e w3 ⟨g3, m3, rfl, t3, k3⟩
  have K3 := Lib.hid (K2.out.then k3); have T3 := Lib.hid t3; clear k3 t3 T2
  go_wp2_with fail
  refine (HA2.out _ _ _ T3.out).mono ?_
  rintro e w4 ⟨g4, m4, rfl, t4, k4⟩
  have K4 := Lib.hid (K3.out.then k4); have T4 := Lib.hid t4; clear k4 t4 T3
  go_wp2_with fail
  refine (HRM.out _ _ _ T4.out).mono ?_
  rintro e w5 ⟨rfl, k5⟩
  have K5 := Lib.hid (K4.out.then k5); have T5 := Lib.hid (T4.out.stay k5); clear k5 T4
  go_wp2_with fail
  refine (HV1.out _).mono ?_
  rintro e w6 ⟨rfl, k6⟩
  have K6 := Lib.hid (K5.out.then k6); have T6 := Lib.hid (T5.out.stay k6); clear k6 T5
  go_wp2_with fail
  refine (HV2.out _).mono ?_
  rintro e w7 ⟨rfl, k7⟩
  have K7 := Lib.hid (K6.out.then k7); have T7 := Lib.hid (T6.out.stay k7); clear k7 T6
  go_wp2_with fail
  refine (HNA.out _).mono ?_
  rintro e w8 ⟨v8, rfl, s8, k8⟩
  have K8 := Lib.hid (K7.out.then k8); have T8 := Lib.hid (T7.out.stay k8); have S8 := Lib.hid s8; clear k8 s8 T7
  go_wp2_with fail
  refine (aw_equal w8 v8 _ _ _ 2 rfl rfl (by decide) S8.out).mono ?_
  rintro e w9 ⟨rfl, k9⟩
  have K9 := Lib.hid (K8.out.then k9); have T9 := Lib.hid (T8.out.stay k9); clear k9 T8 S8
  go_wp2_with fail
  refine (HW1.out _).mono ?_
  rintro e w10 ⟨rfl, k10⟩
  have K10 := Lib.hid (K9.out.then k10); have T10 := Lib.hid (T9.out.stay k10); clear k10 T9
  go_wp2_with fail
  refine (HW2.out _).mono ?_
  rintro e w11 ⟨rfl, k11⟩
  have K11 := Lib.hid (K10.out.then k11); have T11 := Lib.hid (T10.out.stay k11); clear k11 T10
  go_wp2_with fail
  refine (HCM.out _).mono ?_
  rintro e w12 ⟨rfl, k12⟩
  have K12 := Lib.hid (K11.out.then k12); have T12 := Lib.hid (T11.out.stay k12); clear k12 T11
  go_wp2_with fail
  refine (tlenP_any _ _ _ _ _ T12.out).mono ?_
  rintro e w13 ⟨rfl, rfl⟩
  go_wp2_with fail
  refine (aw_children _ _ _ T12.out).mono ?_
  rintro e w14 ⟨v14, rfl, s14, k14⟩
  have K14 := Lib.hid (K12.out.then k14); have S14 := Lib.hid s14; clear k14 s14 T12
  go_wp2_with fail
  refine (aw_equal w14 v14 _ _ _ 2 rfl rfl (by decide) S14.out).mono ?_
  rintro e w15 ⟨rfl, k15⟩
  have K15 := Lib.hid (K14.out.then k15); clear k15 S14
  go_wp2_with fail
  go_ret
  exact ⟨rfl, K15.out⟩

/-- At most 200 bytes of a text. -/
def cutT (s : ByteArray) : ByteArray := s.extract 0 (min s.size 200)
theorem cutT_size (s : ByteArray) : (cutT s).size ≤ 200 := by unfold cutT; rw [ByteArray.size_extract]; omega
set_option maxRecDepth 100000 in
theorem cut_any (s : ByteArray) (hs : s.size ≤ maxLen) (w : World) : Calls Tryd.prog 13 #[.string s] w fun e w' => e = .returned (.string (cutT s)) ∧ w = w' := by
  unfold maxLen at hs
  obtain ⟨V, hV⟩ : ∃ V, V = cutT s := ⟨_, rfl⟩
  rw [← hV]
  unfold cutT at hV
  by_cases h : s.size ≤ 200
  · have e1 : min s.size 200 = s.size := by omega
    have e2 : min (s.size : Int) 200 = (s.size : Int) := by omega
    rw [e1] at hV
    have hV2 : V = s := by rw [hV]; apply ByteArray.ext; simp [ByteArray.data_extract]
    subst hV2
    clear hV
    go_enter Tryd.func13, Tryd.ntmps13
    go_wp2_with fail
    go_ret
    exact ⟨rfl, rfl⟩
  · have e1 : min s.size 200 = 200 := by omega
    have e2 : min (s.size : Int) 200 = (200 : Int) := by omega
    rw [e1] at hV
    subst hV
    go_enter Tryd.func13, Tryd.ntmps13
    go_wp2_with fail
    go_ret
    exact ⟨rfl, rfl⟩
end Go.Proofs.YtndedphkgkmckaaDoor
/-
  arbaclaw07.PathCompares: the walk of the law.
-/
namespace Go.Proofs.YtndedphkgkmckaaDoor
open Go.RowKit Go.Maps Go.WideMaps Go.ChangeMaps
set_option linter.unusedSimpArgs false
set_option linter.unusedVariables false

theorem cmpN_vals : ∀ a b : List ByteArray, cmpN a b = -1 ∨ cmpN a b = 0 ∨ cmpN a b = 1
  | [], [] => by simp [cmpN]
  | [], _ :: _ => by simp [cmpN]
  | _ :: _, [] => by simp [cmpN]
  | x :: a, y :: b => by
    unfold cmpN
    split
    · exact cmpN_vals a b
    · exact cb_vals _ _
theorem compareT_vals (p q : ByteArray) : compareS p q = -1 ∨ compareS p q = 0 ∨ compareS p q = 1 := by
  unfold compareS
  cases namesS p <;> cases namesS q
  · exact cb_vals _ _
  · simp
  · simp
  · exact cmpN_vals _ _
theorem compareT_swap (p q : ByteArray) : compareS q p = - compareS p q := by
  unfold compareS
  cases namesS p <;> cases namesS q
  · exact cmpB_swap _ _
  · rfl
  · rfl
  · exact cmpN_swap _ _

end Go.Proofs.YtndedphkgkmckaaDoor
/-
  Plain words on the order of paths: what PathOrders asks.
-/
namespace Go.Proofs.YtndedphkgkmckaaDoor
open Go.RowKit
set_option linter.unusedSimpArgs false
set_option linter.unusedVariables false

theorem within_names {p q : ByteArray} {xs ys : List ByteArray} (hp : namesS p = some xs) (hq : namesS q = some ys) : withinS p q = true ↔ ys.length ≤ xs.length ∧ ys = xs.take ys.length := by
  unfold withinS
  rw [hp, hq]
  simp only [decide_eq_true_iff]
  exact comS_whole xs ys

theorem cmpN_prefix {a b : List ByteArray} (h : a.length ≤ b.length ∧ a = b.take a.length) : cmpN a b ≤ 0 := by
  have hg : ∀ i, i < a.length → a.getD i ⟨#[]⟩ = b.getD i ⟨#[]⟩ := fun i hi => by
    rw [h.2]
    simp [List.getD, List.getElem?_take, hi]
  rcases Nat.lt_or_ge a.length b.length with h1 | h1
  · rw [cmpN_right hg h1]; omega
  · rw [cmpN_same hg (by omega)]; omega

theorem prefix_mid : ∀ a b c : List ByteArray, cmpN a b ≤ 0 → cmpN b c ≤ 0 → (a.length ≤ c.length ∧ a = c.take a.length) → (a.length ≤ b.length ∧ a = b.take a.length)
  | [], b, c, _, _, _ => ⟨by simp, by simp⟩
  | x :: a, [], c, h, _, _ => by simp [cmpN] at h
  | x :: a, y :: b, [], _, _, h => by simp at h
  | x :: a, y :: b, z :: c, h1, h2, h3 => by
    have h4 := h3.2
    simp at h4
    obtain ⟨rfl, h4⟩ := h4
    unfold cmpN at h1 h2
    have hs := cmpB_swap x y
    by_cases e : cmpB x y = 0
    · have exy := cmpB_zero.1 e
      subst exy
      rw [if_pos e] at h1 h2
      have := prefix_mid a b c h1 h2 ⟨by have := h3.1; simp at this; omega, h4⟩
      refine ⟨by simp; exact this.1, ?_⟩
      simp
      exact this.2
    · rw [if_neg e] at h1
      rw [if_neg (by omega)] at h2
      omega

/-- What the law asks of three paths. -/
structure OrdF (a b c d : ByteArray) : Prop where
  trans : compareS a b ≤ 0 → compareS b c ≤ 0 → compareS a c ≤ 0
  same : compareS a b = 0 → a = b
  up : withinS b a = true → compareS a b ≤ 0
  mid : withinS c a = true → compareS a b ≤ 0 → compareS b c ≤ 0 → withinS b a = true
  com : commonS a b = some d
  da : withinS a d = true
  db : withinS b d = true
  least : withinS a c = true → withinS b c = true → withinS d c = true

theorem ordF {a b c : ByteArray} (ha : IsPath a) (hb : IsPath b) (hc : IsPath c) : ∃ d, OrdF a b c d ∧ d.size ≤ 10000 := by
  obtain ⟨la, hla⟩ := isPath_names ha
  obtain ⟨lb, hlb⟩ := isPath_names hb
  obtain ⟨lc, hlc⟩ := isPath_names hc
  have e1 : compareS a b = cmpN la lb := by unfold compareS; rw [hla, hlb]
  have e2 : compareS b c = cmpN lb lc := by unfold compareS; rw [hlb, hlc]
  have hz := compareS_zero ha hb
  refine ⟨pathS (la.take (comS la lb)), ⟨fun h1 h2 => ?_, fun h => hz.1 h, fun h => ?_, fun h h1 h2 => ?_, ?_, ?_, ?_, fun h1 h2 => ?_⟩, path_size (names_take hla _)⟩
  · by_cases h3 : compareS a b = 0
    · rw [hz.1 h3] at *; exact h2
    · by_cases h4 : compareS b c = 0
      · rw [← (compareS_zero hb hc).1 h4] at *; exact h1
      · have := compareS_trans ha hb hc (by omega) (by omega); omega
  · rw [within_names hlb hla] at h
    rw [e1]; exact cmpN_prefix h
  · rw [within_names hlc hla] at h
    rw [within_names hlb hla]
    rw [e1] at h1
    rw [e2] at h2
    exact prefix_mid la lb lc h1 h2 h
  · unfold commonS; rw [hla, hlb]
  · rw [within_take hla hla _ (comS_le la lb).1]
    have := (comS_whole la la).2 ⟨Nat.le_refl _, by simp⟩
    simp; rw [this]; exact (comS_le la lb).1
  · rw [within_take hla hlb _ (comS_le la lb).1]
    simp
  · rw [within_names hla hlc] at h1
    have hcc : c = pathS (la.take lc.length) := by rw [← h1.2]; exact (pathS_names hlc).1
    have h3 : withinS b (pathS (la.take lc.length)) = true := by rw [← hcc]; exact h2
    rw [within_take hla hlb _ h1.1] at h3
    simp at h3
    rw [within_names (names_take hla _) hlc]
    refine ⟨by rw [List.length_take]; omega, ?_⟩
    rw [List.take_take, Nat.min_eq_left h3]
    exact h1.2
end Go.Proofs.YtndedphkgkmckaaDoor
/-
  Trees of paths as lists: the program's (without the root, in no order) and the reference's.
-/
namespace Go.Proofs.YtndedphkgkmckaaDoor
open Go.RowKit
set_option linter.unusedSimpArgs false
set_option linter.unusedVariables false

def rootS : ByteArray := ⟨#[47]⟩
theorem root_iff {p : ByteArray} : p.toList = [47] ↔ p = rootS := by
  constructor
  · intro h
    exact data_inj (by rw [← ByteArray.toList_eq]; exact h)
  · rintro rfl
    rw [ByteArray.toList_eq]; rfl
theorem pathS_nil : pathS [] = rootS := by rfl
theorem names_rootS : namesS rootS = some [] := names_root

theorem mem_addL {T : Nat → ByteArray} {x : ByteArray} : ∀ (n : Nat) (ts : List ByteArray), x ∈ addL T n ts ↔ (∃ k, 0 < k ∧ k ≤ n ∧ x = T k) ∨ x ∈ ts
  | 0, ts => by
    simp only [addL]
    constructor
    · exact Or.inr
    · rintro (⟨k, h1, h2, _⟩ | h)
      · omega
      · exact h
  | n + 1, ts => by
    rw [addL, mem_addL n, mem_insU]
    constructor
    · rintro (⟨k, h1, h2, h3⟩ | h | h)
      · exact Or.inl ⟨k, h1, by omega, h3⟩
      · exact Or.inl ⟨n + 1, by omega, by omega, h⟩
      · exact Or.inr h
    · rintro (⟨k, h1, h2, h3⟩ | h)
      · by_cases e : k = n + 1
        · subst e; exact Or.inr (Or.inl h3)
        · exact Or.inl ⟨k, h1, by omega, h3⟩
      · exact Or.inr (Or.inr h)

theorem takeWhile_all {f : ByteArray → Bool} : ∀ (l : List ByteArray), ∀ x ∈ l.take (l.takeWhile f).length, f x = true
  | [], x, hx => by simp at hx
  | a :: t, x, hx => by
    by_cases h : f a = true
    · simp only [List.takeWhile, h, List.length_cons, List.take_succ_cons, List.mem_cons] at hx
      rcases hx with rfl | hx
      · exact h
      · exact takeWhile_all t x hx
    · have h : f a = false := by simpa using h
      simp [List.takeWhile, h] at hx
theorem takeWhile_head {f : ByteArray → Bool} : ∀ (l : List ByteArray) (y : ByteArray) (t : List ByteArray), l.drop (l.takeWhile f).length = y :: t → f y = false
  | [], y, t, h => by simp at h
  | a :: l, y, t, h => by
    by_cases ha : f a = true
    · simp only [List.takeWhile, ha, List.length_cons, List.drop_succ_cons] at h
      exact takeWhile_head l y t h
    · have ha : f a = false := by simpa using ha
      simp only [List.takeWhile, ha, List.length_nil, List.drop_zero] at h
      injection h with h1 h2
      rw [← h1]; exact ha

theorem insS_sorted {l : List ByteArray} {p : ByteArray} (h : SortedP l) (hp : IsPath p) : SortedP (insS l p) := by
  refine ⟨?_, fun x hx => ?_⟩
  · unfold insS
    split
    · exact h.1
    · next hm =>
      have hnm : p ∉ l := fun hh => hm ((memS_iff _ _).2 hh)
      have h1 : ∀ x ∈ l.take (idxS l p), compareS x p < 0 := fun x hx => by
        have := takeWhile_all l x hx
        rw [decide_eq_true_iff] at this
        omega
      have hs : (l.take (idxS l p) ++ l.drop (idxS l p)).Pairwise (fun a b => compareS a b < 0) := by rw [List.take_append_drop]; exact h.1
      rw [List.pairwise_append] at hs
      have h2 : ∀ y ∈ l.drop (idxS l p), compareS p y < 0 := by
        cases hd : l.drop (idxS l p) with
        | nil => intro y hy; cases hy
        | cons y t =>
          have hym : y ∈ l := List.mem_of_mem_drop (i := idxS l p) (by rw [hd]; simp)
          have hy1 := takeWhile_head l y t hd
          have hyp : IsPath y := h.2 y hym
          have hy0 : compareS p y < 0 := by
            have e1 := compareS_swap hp hyp
            have e2 := compareT_vals y p
            have e3 : compareS y p ≠ 0 := fun e => hnm (by rw [← (compareS_zero hyp hp).1 e]; exact hym)
            have e4 : ¬ compareS y p = -1 := by simpa using hy1
            omega
          intro z hz
          rcases List.mem_cons.1 hz with rfl | hz
          · exact hy0
          · have hs2 := hs.2.1
            rw [hd, List.pairwise_cons] at hs2
            exact compareS_trans hp hyp (h.2 z (List.mem_of_mem_drop (i := idxS l p) (by rw [hd]; exact List.mem_cons_of_mem _ hz))) hy0 (hs2.1 z hz)
      rw [List.pairwise_append, List.pairwise_cons]
      refine ⟨hs.1, ⟨h2, hs.2.1⟩, fun a ha b hb => ?_⟩
      rcases List.mem_cons.1 hb with rfl | hb
      · exact h1 a ha
      · exact hs.2.2 a ha b hb
  · rcases insS_mem.1 hx with rfl | hx
    · exact hp
    · exact h.2 x hx
theorem foldS_sorted : ∀ (qs l : List ByteArray), SortedP l → (∀ x ∈ qs, IsPath x) → SortedP (qs.foldl insS l)
  | [], l, h, _ => h
  | a :: t, l, h, hq => foldS_sorted t (insS l a) (insS_sorted h (hq a (by simp))) (fun x hx => hq x (List.mem_cons_of_mem _ hx))

/-- The program's paths and the reference's are those of one tree. -/
structure Both (ts want : List ByteArray) : Prop where
  sorted : SortedP want
  mem : ∀ x, x ∈ want ↔ x = rootS ∨ x ∈ ts
  nodup : ts.Nodup
  noroot : rootS ∉ ts
  closed : ∀ q ys, q ∈ ts → namesS q = some ys → ∀ k, 0 < k → k ≤ ys.length → pathS (ys.take k) ∈ ts

theorem Both.paths {ts want : List ByteArray} (h : Both ts want) : ∀ s ∈ ts, IsPath s := fun s hs => h.sorted.2 s ((h.mem s).2 (Or.inr hs))
theorem Both.len {ts want : List ByteArray} (h : Both ts want) : want.length = ts.length + 1 := by
  have h1 : (rootS :: ts).Nodup := List.nodup_cons.2 ⟨h.noroot, h.nodup⟩
  have h2 : want.Perm (rootS :: ts) := (List.perm_ext_iff_of_nodup h.sorted.nodup h1).2 fun a => by rw [h.mem, List.mem_cons]
  rw [h2.length_eq]; rfl
theorem Both.start : Both [] [rootS] := by
  refine ⟨⟨by simp, fun x hx => ?_⟩, fun x => by simp, List.nodup_nil, by simp, fun q ys hq => by cases hq⟩
  rw [List.mem_singleton.1 hx]
  unfold IsPath
  rw [names_rootS]; rfl

theorem anc_mem {p x : ByteArray} {xs : List ByteArray} (hp : namesS p = some xs) : x ∈ ancS p ↔ ∃ k, k < xs.length ∧ x = pathS (xs.take k) := by
  unfold ancS
  rw [hp]
  simp only [List.mem_map, List.mem_range]
  constructor
  · rintro ⟨k, h1, h2⟩; exact ⟨k, h1, h2.symm⟩
  · rintro ⟨k, h1, h2⟩; exact ⟨k, h1, h2.symm⟩

theorem Both.add {ts want : List ByteArray} (h : Both ts want) {p : ByteArray} {xs : List ByteArray} (hp : namesS p = some xs) : Both (addL (fun k => pathS (xs.take k)) xs.length ts) (addS want p) := by
  have hip : IsPath p := by unfold IsPath; rw [hp]; rfl
  have hpe : p = pathS (xs.take xs.length) := by rw [List.take_length]; exact (pathS_names hp).1
  refine ⟨?_, fun x => ?_, nodup_addL _ _ _ h.nodup, fun hr => ?_, fun q ys hq hy k h0 hk => ?_⟩
  · refine insS_sorted (foldS_sorted _ _ h.sorted fun x hx => ?_) hip
    obtain ⟨k, _, rfl⟩ := (anc_mem hp).1 hx
    unfold IsPath
    rw [names_take hp k]; rfl
  · unfold addS
    rw [insS_mem, foldS_mem, anc_mem hp, h.mem, mem_addL]
    constructor
    · rintro (e | ⟨k, h1, h2⟩ | e | e)
      · by_cases h0 : xs.length = 0
        · refine Or.inl ?_
          rw [e, hpe, h0, List.take_zero]; exact pathS_nil
        · exact Or.inr (Or.inl ⟨xs.length, by omega, Nat.le_refl _, by rw [e]; exact hpe⟩)
      · by_cases h0 : k = 0
        · refine Or.inl ?_
          rw [h2, h0, List.take_zero]; exact pathS_nil
        · exact Or.inr (Or.inl ⟨k, by omega, by omega, h2⟩)
      · exact Or.inl e
      · exact Or.inr (Or.inr e)
    · rintro (e | ⟨k, h1, h2, h3⟩ | e)
      · exact Or.inr (Or.inr (Or.inl e))
      · by_cases h0 : k = xs.length
        · refine Or.inl ?_
          rw [h3, h0]; exact hpe.symm
        · exact Or.inr (Or.inl ⟨k, by omega, h3⟩)
      · exact Or.inr (Or.inr (Or.inr e))
  · rcases (mem_addL _ _).1 hr with ⟨k, h1, h2, h3⟩ | hr
    · exact path_ne_root hp k h1 h2 (root_iff.2 h3.symm)
    · exact h.noroot hr
  · rw [mem_addL] at hq ⊢
    rcases hq with ⟨j, h1, h2, h3⟩ | hq
    · refine Or.inl ⟨k, h0, ?_, ?_⟩
      · have e : ys = xs.take j := by
          have := names_take hp j
          rw [← h3, hy] at this
          exact Option.some.inj this
        rw [e, List.length_take] at hk
        omega
      · have e : ys = xs.take j := by
          have := names_take hp j
          rw [← h3, hy] at this
          exact Option.some.inj this
        rw [e, List.length_take] at hk
        rw [e, List.take_take, show min k j = k by omega]
    · exact Or.inr (h.closed q ys hq hy k h0 hk)

/-- A path of a tree has children exactly if another path lies within it. -/
theorem Both.child {ts want : List ByteArray} (h : Both ts want) {p q : ByteArray} (hp : p ∈ ts) (hq : q ∈ ts) (hne : q ≠ p) (hw : withinS q p = true) : ∃ c, c ∈ ts ∧ keepCh p c = true := by
  obtain ⟨xs, hx⟩ := isPath_names (h.paths p hp)
  obtain ⟨ys, hy⟩ := isPath_names (h.paths q hq)
  have hn := (within_names hy hx).1 hw
  have hlt : xs.length < ys.length := by
    rcases Nat.lt_or_ge xs.length ys.length with h1 | h1
    · exact h1
    · have e : ys = xs := by rw [hn.2]; exact (List.take_of_length_le h1).symm
      rw [e] at hy
      exact absurd (namesS_inj hy hx) hne
  refine ⟨pathS (ys.take (xs.length + 1)), h.closed q ys hq hy _ (by omega) (by omega), ?_⟩
  unfold keepCh
  rw [parent_take hy (xs.length + 1) (by omega) (by omega)]
  rw [str_eq, decide_eq_true_iff]
  show pathS (ys.take (xs.length + 1 - 1)) = p
  rw [Nat.add_sub_cancel, ← hn.2]
  exact (pathS_names hx).1.symm

theorem keep_parent {p c : ByteArray} {ys : List ByteArray} (hy : namesS c = some ys) (hp : IsPath p) (hk : keepCh p c = true) : 0 < ys.length ∧ p = pathS (ys.take (ys.length - 1)) := by
  have hce : c = pathS (ys.take ys.length) := by rw [List.take_length]; exact (pathS_names hy).1
  unfold keepCh at hk
  rw [str_eq, decide_eq_true_iff] at hk
  by_cases h0 : ys.length = 0
  · exfalso
    have e : ys = [] := List.eq_nil_of_length_eq_zero h0
    rw [e] at hy
    have : parentS c = none := by unfold parentS; rw [hy]
    rw [this] at hk
    have hk : (⟨#[]⟩ : ByteArray) = p := hk
    unfold IsPath at hp
    rw [← hk] at hp
    exact absurd hp (by decide +kernel)
  · refine ⟨by omega, ?_⟩
    rw [hce, parent_take hy ys.length (by omega) (Nat.le_refl _)] at hk
    exact hk.symm

theorem Both.below {ts want : List ByteArray} (h : Both ts want) {p : ByteArray} (hp : p ∈ ts) : 1 < (belowS want p).length ↔ ∃ c, c ∈ ts ∧ keepCh p c = true := by
  have hpw : p ∈ want := (h.mem p).2 (Or.inr hp)
  have hb : belowS want p = want.filter fun q => withinS q p := if_pos ((memS_iff _ _).2 hpw)
  obtain ⟨xs, hx⟩ := isPath_names (h.paths p hp)
  have hself : withinS p p = true := (within_names hx hx).2 ⟨Nat.le_refl _, List.take_length.symm⟩
  have hpb : p ∈ belowS want p := by rw [hb, List.mem_filter]; exact ⟨hpw, hself⟩
  have hnd : (belowS want p).Nodup := by rw [hb]; exact h.sorted.nodup.filter _
  constructor
  · intro h1
    have : ∃ q, q ∈ belowS want p ∧ q ≠ p := by
      apply Classical.byContradiction
      intro hno
      have hall : ∀ q ∈ belowS want p, q = p := fun q hq => Classical.byContradiction fun hne => hno ⟨q, hq, hne⟩
      match hbl : belowS want p with
      | [] => rw [hbl] at h1; simp at h1
      | [a] => rw [hbl] at h1; simp at h1
      | a :: b :: t =>
        rw [hbl] at hall hnd
        have ea := hall a (by simp)
        have eb := hall b (by simp)
        rw [List.nodup_cons] at hnd
        exact hnd.1 (by rw [ea, eb]; simp)
    obtain ⟨q, hq, hne⟩ := this
    rw [hb, List.mem_filter] at hq
    have hqt : q ∈ ts := by
      rcases (h.mem q).1 hq.1 with e | e
      · exfalso
        have hn := (within_names (by rw [e]; exact names_rootS) hx).1 hq.2
        have e2 : xs = [] := List.eq_nil_of_length_eq_zero (by simpa using hn.1)
        rw [e2] at hx
        exact h.noroot (by rw [namesS_inj names_rootS hx]; exact hp)
      · exact e
    exact h.child hp hqt hne hq.2
  · rintro ⟨c, hc, hk⟩
    obtain ⟨ys, hy⟩ := isPath_names (h.paths c hc)
    obtain ⟨h0, hpe⟩ := keep_parent hy (h.paths p hp) hk
    have hcp : c ≠ p := fun e => by
      have := names_take hy (ys.length - 1)
      rw [← hpe, ← e, hy] at this
      have := congrArg List.length (Option.some.inj this)
      rw [List.length_take] at this
      omega
    have hwi : withinS c p = true := by
      have hxe : namesS p = some (ys.take (ys.length - 1)) := by rw [hpe]; exact names_take hy _
      exact (within_names hy hxe).2 ⟨by rw [List.length_take]; omega, by rw [List.length_take, show min (ys.length - 1) ys.length = ys.length - 1 by omega]⟩
    have hcb : c ∈ belowS want p := by rw [hb, List.mem_filter]; exact ⟨(h.mem c).2 (Or.inr hc), hwi⟩
    match hbl : belowS want p with
    | [] => rw [hbl] at hpb; cases hpb
    | [a] =>
      rw [hbl] at hpb hcb
      exact absurd ((List.mem_singleton.1 hcb).trans (List.mem_singleton.1 hpb).symm) hcp
    | a :: b :: t => simp

theorem Both.rem {ts want : List ByteArray} (h : Both ts want) {p : ByteArray} (hp : p ∈ ts) (hch : ∀ c, c ∈ ts → keepCh p c = false) : Both (remT ts p) (remS want p) := by
  have hpr : p ≠ rootS := fun e => h.noroot (by rw [← e]; exact hp)
  refine ⟨⟨h.sorted.1.filter _, fun x hx => h.sorted.2 x ((List.mem_filter.1 hx).1)⟩, fun x => ?_, h.nodup.filter _, fun hr => h.noroot (mem_remT.1 hr).2, fun q ys hq hy k h0 hk => ?_⟩
  · unfold remS
    rw [List.mem_filter, ne_list, decide_eq_true_iff, h.mem, mem_remT]
    constructor
    · rintro ⟨e | e, hne⟩
      · exact Or.inl e
      · exact Or.inr ⟨hne, e⟩
    · rintro (e | ⟨hne, e⟩)
      · exact ⟨Or.inl e, by rw [e]; exact fun e2 => hpr e2.symm⟩
      · exact ⟨Or.inr e, hne⟩
  · rw [mem_remT] at hq ⊢
    refine ⟨fun e => ?_, h.closed q ys hq.2 hy k h0 hk⟩
    have hxe : namesS p = some (ys.take k) := by rw [← e]; exact names_take hy k
    have hwi : withinS q p = true := (within_names hy hxe).2 ⟨by rw [List.length_take]; omega, by rw [List.length_take, show min k ys.length = k by omega]⟩
    obtain ⟨c, hc, hkc⟩ := h.child hp hq.2 hq.1 hwi
    rw [hch c hc] at hkc
    cases hkc

/-- A removal: its error, for both. -/
theorem Both.error {ts want : List ByteArray} (h : Both ts want) (p : ByteArray) :
    ((namesS p).isSome = false ∧ remE want p = 6) ∨ ((namesS p).isSome = true ∧ p.toList = [47] ∧ remE want p = 1) ∨
    ((namesS p).isSome = true ∧ ¬ p.toList = [47] ∧ memS p ts = false ∧ remE want p = 4) ∨
    ((namesS p).isSome = true ∧ ¬ p.toList = [47] ∧ memS p ts = true ∧ (∃ c, c ∈ ts ∧ keepCh p c = true) ∧ remE want p = 7) ∨
    ((namesS p).isSome = true ∧ ¬ p.toList = [47] ∧ memS p ts = true ∧ (∀ c, c ∈ ts → keepCh p c = false) ∧ remE want p = 0) := by
  unfold remE
  cases hn : (namesS p).isSome with
  | false => exact Or.inl ⟨rfl, if_pos rfl⟩
  | true =>
    rw [if_neg (by decide)]
    by_cases hr : p.toList = [47]
    · exact Or.inr (Or.inl ⟨rfl, hr, if_pos hr⟩)
    · rw [if_neg hr]
      have hme : memS p want = memS p ts := by
        rw [Bool.eq_iff_iff, memS_iff, memS_iff, h.mem]
        exact ⟨fun h2 => h2.resolve_left fun e => hr (root_iff.2 e), Or.inr⟩
      rw [hme]
      cases hm : memS p ts with
      | false => exact Or.inr (Or.inr (Or.inl ⟨rfl, hr, rfl, if_pos rfl⟩))
      | true =>
        rw [if_neg (by decide)]
        have hb := h.below ((memS_iff _ _).1 hm)
        by_cases h1 : 1 < (belowS want p).length
        · exact Or.inr (Or.inr (Or.inr (Or.inl ⟨rfl, hr, rfl, hb.1 h1, if_pos h1⟩)))
        · refine Or.inr (Or.inr (Or.inr (Or.inr ⟨rfl, hr, rfl, fun c hc => ?_, if_neg h1⟩)))
          cases hk : keepCh p c with
          | false => rfl
          | true => exact absurd (hb.2 ⟨c, hc, hk⟩) h1
end Go.Proofs.YtndedphkgkmckaaDoor
/-
  Changes of a tree as they come in: what path each speaks of.
-/
namespace Go.Proofs.YtndedphkgkmckaaDoor
open Go.Joins Go.ChangeShapes Go.WideShapes Go.ChangeAt Go.RowKit Go.Deep
set_option linter.unusedSimpArgs false
set_option linter.unusedVariables false
set_option linter.constructorNameAsVariable false

/-- The path of a change. -/
def opS (raw : ByteArray) (xs : List Nat) : ByteArray := if raw.size = 0 then makeS xs else cutT raw
theorem opS_size (raw : ByteArray) (xs : List Nat) : (opS raw xs).size ≤ 10000 := by
  unfold opS
  split
  · exact path_size (makeS_names xs)
  · have := cutT_size raw; omega

/-- A change in memory: its three cells. -/
structure OpAt (w : World) (g o : Nat) (rm : Bool) (pv : Value) (raw : ByteArray) (xs : List Nat) (B : Nat) : Prop where
  c0 : w.cell? ⟨g, o, none⟩ = some (.bool rm)
  c1 : w.cell? ⟨g, o + 1, none⟩ = some pv
  c2 : w.cell? ⟨g, o + 2, none⟩ = some (.string raw)
  loose : Loose w pv xs B
  byte : ∀ x ∈ xs, x < 256
  size : raw.size ≤ maxLen
theorem OpAt.kept {w w' : World} {g o : Nat} {rm : Bool} {pv : Value} {raw : ByteArray} {xs : List Nat} {B : Nat} (h : OpAt w g o rm pv raw xs B) (hk : Kept (fun _ => False) w w') : OpAt w' g o rm pv raw xs B :=
  ⟨(hk.cell (World.block_lt_of_cell? w _ h.c0) (fun h => h)).trans h.c0, (hk.cell (World.block_lt_of_cell? w _ h.c1) (fun h => h)).trans h.c1, (hk.cell (World.block_lt_of_cell? w _ h.c2) (fun h => h)).trans h.c2,
    h.loose.kept hk (fun _ _ h => h), h.byte, h.size⟩

/-- A list of changes in memory: it is empty, or its elements lie there. -/
def OpsL (w : World) (v : Value) (N B : Nat) : Prop :=
  ((∃ a c, v = .slice a 0 c ∧ (a = none → c = 0) ∧ c ≤ 9223372036854775807) ∧ N = 0) ∨
  ∃ g off cap, v = .slice (some ⟨g, off, none⟩) N cap ∧ (N ≤ cap ∧ cap ≤ 9223372036854775807) ∧ ∀ i, i < N → ∃ rm pv raw xs, OpAt w g (off + i * 3) rm pv raw xs B
theorem OpsL.kept {w w' : World} {v : Value} {N B : Nat} (h : OpsL w v N B) (hk : Kept (fun _ => False) w w') : OpsL w' v N B := by
  rcases h with h | ⟨g, off, cap, e, hc, h⟩
  · exact Or.inl h
  · exact Or.inr ⟨g, off, cap, e, hc, fun i hi => by
      obtain ⟨rm, pv, raw, xs, ho⟩ := h i hi
      exact ⟨rm, pv, raw, xs, ho.kept hk⟩⟩
theorem OpsL.cut {w : World} {a : Option Addr} {c N B : Nat} (h : OpsL w (.slice a N c) N B) (K : Nat) (hK : K ≤ N) : OpsL w (.slice a K c) K B := by
  rcases h with ⟨⟨a', c', h, hc⟩, rfl⟩ | ⟨g, off, cap, h, hc, h3⟩
  · obtain rfl : K = 0 := by omega
    cases h
    exact Or.inl ⟨⟨_, _, rfl, hc⟩, rfl⟩
  · cases h
    exact Or.inr ⟨g, off, _, rfl, ⟨by omega, hc.2⟩, fun i hi => h3 i (by omega)⟩
theorem OpsL.form {w : World} {v : Value} {N B : Nat} (h : OpsL w v N B) : ∃ a c, v = .slice a N c ∧ N ≤ c ∧ c ≤ 9223372036854775807 := by
  rcases h with ⟨⟨a, c, rfl, _, hc⟩, rfl⟩ | ⟨g, off, cap, rfl, hc, h⟩
  · exact ⟨a, c, rfl, Nat.zero_le _, hc⟩
  · exact ⟨_, _, rfl, hc.1, hc.2⟩
theorem OpsL.at {w : World} {a : Option Addr} {c N B k : Nat} (h : OpsL w (.slice a N c) N B) (hk : k < N) :
    ∃ g off rm pv raw xs, a = some ⟨g, off, none⟩ ∧ OpAt w g (off + k * 3) rm pv raw xs B := by
  rcases h with ⟨_, rfl⟩ | ⟨g, off, cap, h, _, h3⟩
  · omega
  · cases h
    obtain ⟨rm, pv, raw, xs, ho⟩ := h3 k hk
    exact ⟨g, off, rm, pv, raw, xs, rfl, ho⟩

theorem cellsOp : Tryd.prog.cellsOf 39 = 3 := by kernel_rfl
theorem cellsBl : Tryd.prog.cellsOf 4 = 1 := by kernel_rfl
theorem cellsSt : Tryd.prog.cellsOf 9 = 1 := by kernel_rfl
theorem add_plainP (g off n : Nat) : (⟨g, off, none⟩ : Addr).add n = ⟨g, off + n, none⟩ := by unfold Addr.add; split <;> simp_all

set_option maxRecDepth 100000 in
theorem ops_of {H : Type} {enc : TypeId × Value → H} {W : World} {a : Option Addr} {len cap : Nat} {y : DataW H × List MemPlace} {fuel : Nat} (h : DataW.trod enc Tryd.prog W 0 (fun _ => true) true fuel 22 [.slice a len cap] = some y) :
    OpsL W (.slice a len cap) len W.heap.size := by
  rcases open_slice Tryd.underlying22 h with ⟨hcs, _⟩ | ⟨x, l, c, m, n, D, Pl, hcs, _, hl, hm, hmm, _, hi⟩
  · injection hcs with hcs
    injection hcs with e1 e2 e3
    subst e1 e2 e3
    exact Or.inl ⟨⟨_, _, rfl, fun _ => rfl, by omega⟩, rfl⟩
  · injection hcs with hcs
    injection hcs with e1 e2 e3
    subst e1 e2 e3
    simp only [if_true] at hmm
    subst hmm
    have hel : ∀ i, i < len → ∃ x0 x1 x2 fu y0 y1 y2, W.cell? ((x.add (i * 3)).add 0) = some x0 ∧ W.cell? ((x.add (i * 3)).add 1) = some x1 ∧ W.cell? ((x.add (i * 3)).add 2) = some x2 ∧
        DataW.trod enc Tryd.prog W 0 (fun _ => true) true fu 4 [x0] = some y0 ∧ DataW.trod enc Tryd.prog W 0 (fun _ => true) true fu 37 [x1] = some y1 ∧ DataW.trod enc Tryd.prog W 0 (fun _ => true) true fu 9 [x2] = some y2 := by
      intro i hil
      obtain ⟨cs', hc, ht⟩ := hi i (by omega)
      rw [cellsOp] at hc
      obtain ⟨_, hcl, hat⟩ := World.cells?_some hc
      obtain ⟨y0, y1, y2, fu, _, hlen, t0, t1, t2⟩ := trod_struct3 Tryd.underlying39 ht
      rw [cellsOp] at hlen
      match cs', hlen with
      | [x0, x1, x2], _ =>
        refine ⟨x0, x1, x2, fu, y0, y1, y2, hat 0 (by omega), hat 1 (by omega), hat 2 (by omega), ?_, ?_, ?_⟩
        · simpa [cellsBl] using t0
        · simpa [cellsBs] using t1
        · simpa [cellsSt] using t2
    by_cases h0 : len = 0
    · subst h0
      exact Or.inl ⟨⟨_, _, rfl, (fun h => by cases h), (by unfold maxLen at hm; omega)⟩, rfl⟩
    · obtain ⟨x0, _, _, _, _, _, _, hx0, _⟩ := hel 0 (by omega)
      rw [show (x.add (0 * 3)).add 0 = x from rfl] at hx0
      have hs := World.cell?_spot hx0
      obtain ⟨g, off, spot⟩ := x
      simp only at hs
      subst hs
      refine Or.inr ⟨g, off, _, rfl, ⟨hl, by unfold maxLen at hm; omega⟩, fun i hil => ?_⟩
      obtain ⟨x0, x1, x2, fu, y0, y1, y2, c0, c1, c2, t0, t1, t2⟩ := hel i hil
      rw [add_plainP, add_plainP] at c0 c1 c2
      obtain ⟨b, e0, _⟩ := DataW.trod_bool Tryd.underlying4 t0
      obtain ⟨s, e2, _, hsz⟩ := DataW.trod_string Tryd.underlying9 t2
      injection e0 with e0; injection e2 with e2
      subst e0 e2
      obtain ⟨xs, hlo, hby⟩ := loose_of t1
      exact ⟨b, x1, s, xs, c0, c1, c2, hlo, hby, hsz⟩

set_option maxRecDepth 100000 in
theorem ops_in {H : Type} {enc : TypeId × Value → H} {W : World} {base : Nat} {v : Value} {d : DataW H} {p : List MemPlace} (o : Value.okWide Tryd.prog W .any base 22 v) (h : DataW.Trod enc Tryd.prog W 0 (fun _ => true) true 22 v d p) :
    ∃ a N c, v = .slice a N c ∧ OpsL W (.slice a N c) N W.heap.size := by
  obtain ⟨a, len, cap, rfl⟩ := okWide_slice Tryd.underlying22 o
  obtain ⟨fuel, h⟩ := h
  simp [Value.cells] at h
  exact ⟨a, len, cap, rfl, ops_of h⟩

set_option maxRecDepth 100000 in
set_option maxHeartbeats 800000 in
theorem of_op (rm : Bool) (pv : Value) (raw : ByteArray) (xs : List Nat) (B : Nat) (w : World) (h : Loose w pv xs B) (hb : ∀ x ∈ xs, x < 256) (hs : raw.size ≤ maxLen) :
    Calls Tryd.prog 20 #[.agg #[.bool rm, pv, .string raw]] w fun e w' => e = .returned (.string (opS raw xs)) ∧ Kept (fun _ => False) w w' := by
  have hk := Kept.alloc (fun _ => False) w (.cells #[.bool rm, pv, .string raw] 39)
  have HK := Lib.hid hk
  unfold opS
  by_cases h0 : raw.size = 0
  · rw [if_pos h0]
    have hl : raw.data.toList = [] := by
      have e : raw.size = raw.data.toList.length := rfl
      exact List.eq_nil_of_length_eq_zero (by omega)
    have hl2 : raw.toList = [] := by rw [ByteArray.toList_eq]; exact hl
    have hne : (raw.toList != []) = false := by rw [hl2]; rfl
    have HM := Lib.hid (make_any pv xs B _ (h.kept hk (fun _ _ h => h)) hb h.le)
    generalize makeS xs = P at HM ⊢
    clear h hb hs hk h0 hl
    go_enter Tryd.func20, Tryd.ntmps20
    go_wp2_with fail
    refine HM.out.mono ?_
    rintro e w1 ⟨rfl, k1⟩
    have K1 := Lib.hid (HK.out.then k1); clear k1
    go_wp2_with fail
    go_ret
    exact ⟨rfl, K1.out⟩
  · rw [if_neg h0]
    have hl : ¬ raw.toList = [] := fun e => h0 (by
      rw [ByteArray.toList_eq] at e
      have e2 : raw.size = raw.data.toList.length := rfl
      rw [e2, e]; rfl)
    have hemp : raw.toList.isEmpty = false := by
      cases he : raw.toList.isEmpty with
      | false => rfl
      | true => exact absurd (List.isEmpty_iff.1 he) hl
    have hne : (raw.toList != []) = true := by simpa [bne] using hl
    have heq : (raw.toList == []) = false := beq_eq_false_iff_ne.2 hl
    have HC := Lib.hid (fun W => cut_any raw hs W)
    generalize cutT raw = P at HC ⊢
    clear h hb hs hk h0
    go_enter Tryd.func20, Tryd.ntmps20
    go_wp2_with fail
    refine (HC.out _).mono ?_
    rintro e w1 ⟨rfl, rfl⟩
    go_wp2_with fail
    go_ret
    exact ⟨rfl, HK.out⟩
end Go.Proofs.YtndedphkgkmckaaDoor
/-
  arbaclaw07.play: a tree after changes, the program's and the reference's.
-/
namespace Go.Proofs.YtndedphkgkmckaaDoor
open Go.RowKit
set_option linter.unusedSimpArgs false
set_option linter.unusedVariables false

/-- One tree in memory, the program's and the reference's. -/
structure TwoT (w wr : World) (g : Nat) (mv v : Value) (ts want : List ByteArray) (n : Nat) : Prop where
  tree : TreeL wr g mv ts
  row : Strs wr v want
  both : Both ts want
  len : ts.length ≤ n
  kept : Kept (fun _ => False) w wr
theorem TwoT.on {w a b : World} {g : Nat} {mv v : Value} {ts want : List ByteArray} {n m : Nat} (h : TwoT w a g mv v ts want n) (hk : Kept (fun _ => False) a b) (hm : n ≤ m) : TwoT w b g mv v ts want m :=
  ⟨h.tree.stay hk, h.row.kept hk (fun _ _ h => h), h.both, Nat.le_trans h.len hm, h.kept.then hk⟩
theorem TwoT.small {w a : World} {g : Nat} {mv v : Value} {ts want : List ByteArray} {n : Nat} (h : TwoT w a g mv v ts want n) : ∀ x ∈ want, x.size ≤ 100000 := fun x hx => by
  obtain ⟨l, hl⟩ := isPath_names (h.both.sorted.2 x hx)
  have := path_size hl; omega

set_option maxRecDepth 100000 in
set_option maxHeartbeats 6400000 in
theorem play_at (a0 : Option Addr) (N c0 B : Nat) (w : World) (h : OpsL w (.slice a0 N c0) N B) :
    Calls Tryd.prog 8 #[.slice a0 N c0] w fun e w' => ∃ g mv v ts want, e = .returned (.tuple #[.pointer (some ⟨g, 0, none⟩), v]) ∧ TwoT w w' g mv v ts want 112 := by
  obtain ⟨_, _, he, hN, hc0⟩ := h.form
  cases he
  obtain ⟨K, hK⟩ : ∃ K, K = min N 14 := ⟨_, rfl⟩
  have hmin : min (N : Int) 14 = (K : Int) := by omega
  have hK0 : (0 : Int) ≤ (K : Int) := by omega
  have hK1 : (K : Int) ≤ (N : Int) := by omega
  have hK2 : (K : Int) ≤ (c0 : Int) := by omega
  have hK3 : K ≤ c0 := by omega
  have hK4 : K ≤ N := by omega
  have hK5 : K ≤ 14 := by omega
  have HLK := Lib.hid (h.cut K hK4)
  clear h hK
  go_enter Tryd.func8, Tryd.ntmps8
  go_wp2_with fail
  refine (newTreeL_any w).mono ?_
  rintro e w1 ⟨g, rfl, ht, hg, k1⟩
  have hk2 := Kept.alloc (fun _ => False) w1 (.cells #[.string ⟨#[47]⟩] 9)
  have HT0 := Lib.hid ((⟨ht.stay hk2, strs_new w1 #[.string ⟨#[47]⟩] 9 1 [rootS] rfl rfl (by unfold maxLen; omega), Both.start, Nat.zero_le _, k1.then hk2⟩ : TwoT w (w1.alloc (.cells #[.string ⟨#[47]⟩] 9)) g (.map none) (.slice (some ⟨w1.heap.size, 0, none⟩) 1 1) [] [rootS] 0))
  clear ht hg k1 hk2
  go_wp2_with fail
  go_loopw [4, 5, 21] (fun tv lv iv wr => ∃ (k g : Nat), k ≤ K ∧ iv = .int .i64 k ∧ tv = .pointer (some ⟨g, 0, none⟩) ∧ Hid (∃ mv ts want, TwoT w wr g mv lv ts want (8 * k))) (fun _ _ iv _ => K - (intOf iv).toNat)
  case atStart => exact ⟨0, g, by omega, rfl, rfl, ⟨_, _, _, HT0.out⟩⟩
  case round =>
    obtain ⟨k, g, hk, rfl, rfl, htw⟩ := hrel
    obtain ⟨mv, ts, want, htw⟩ := htw.out
    have HTW := Lib.hid htw
    have l0 : (0 : Int) ≤ (k : Int) := by omega
    by_cases hlt : k < K
    · have l1 : (k : Int) < (K : Int) := by omega
      obtain ⟨ga, off, rm, pv, raw, xs, ha0, hop⟩ := (HLK.out.kept htw.kept).at (k := k) hlt
      subst ha0
      obtain ⟨c0', c1', c2', hlo, hby, hsz⟩ := hop
      obtain ⟨pa, pc, hpf⟩ := hlo.form
      subst hpf
      generalize xs.length = pn at c1' hlo
      have hkx := Kept.alloc (fun _ => False) wr (.cells #[.bool rm, .slice pa pn pc, .string raw] 39)
      have HOF := Lib.hid (of_op rm (.slice pa pn pc) raw xs _ _ (hlo.kept hkx (fun _ _ h => h)) hby hsz)
      have hps := opS_size raw xs
      generalize opS raw xs = p at HOF hps
      have HTX := Lib.hid (htw.on hkx (Nat.le_refl _))
      clear hlo hby hsz hkx htw HTW
      cases rm with
      | true =>
        go_wp2_with fail
        have hcell : ∀ W, Kept (fun _ => False) (wr.alloc (.cells #[.bool true, .slice pa pn pc, .string raw] 39)) W → W.cell? ⟨wr.heap.size, 0, none⟩ = some (.bool true) := fun W hk => (hk.cell (p := ⟨wr.heap.size, 0, none⟩) (by simp) (fun h => h)).trans (by go_simp)
        generalize wr.alloc (.cells #[.bool true, .slice pa pn pc, .string raw] 39) = wx at HOF HTX hcell ⊢
        generalize wr.heap.size = bx at hcell ⊢
        have HCX := Lib.hid hcell
        clear hcell c0' c1' c2'
        refine HOF.out.mono ?_
        rintro e w3 ⟨rfl, k3⟩
        have HT3 := Lib.hid (HTX.out.on k3 (Nat.le_refl _))
        have hc3 := HCX.out w3 k3
        clear k3 HTX HOF
        have hbl := HT3.out.both.len
        have hln := HT3.out.len
        have HREM := rremove_any _ want p w3 HT3.out.row (by omega) (by omega) HT3.out.small
        have hpath := HT3.out.both.paths
        rcases HT3.out.both.error p with ⟨q1, hE⟩ | ⟨q1, q2, hE⟩ | ⟨q1, q2, q3, hE⟩ | ⟨q1, q2, q3, q4, hE⟩ | ⟨q1, q2, q3, q4, hE⟩
        · have HB := fun W (hk : Kept (fun _ => False) w3 W) => rremove_any _ want p W (HT3.out.row.kept hk (fun _ _ h => h)) (by omega) (by omega) HT3.out.small
          rw [hE] at HB
          have HB := Lib.hid HB
          clear hE
          have HA := Lib.hid (remove_form w3 g p (by omega) q1)
          clear q1 hbl hln hpath HREM
          go_wp2_with fail
          refine HA.out.mono ?_
          rintro e w4 ⟨rfl, k4⟩
          have K4 := Lib.hid k4; clear k4
          go_wp2_with fail
          refine (HB.out _ K4.out).mono ?_
          rintro e w5 ⟨v5, rfl, _, k5⟩
          have HE : Hid (∃ mv ts want, TwoT w w5 g mv u5 ts want (8 * (k + 1))) := ⟨mv, ts, want, HT3.out.on (K4.out.then k5) (by omega)⟩
          clear k5
          go_wp2_with fail
          go_roundw
          case rel => first | exact ⟨k + 1, g, by omega, by go_num, rfl, HE⟩ | ((repeat apply Exists.intro); exact ⟨⟨k + 1, g, by omega, by go_num, rfl, HE⟩, rfl⟩)
          case measure => simp [intOf]; omega
        · have HB := fun W (hk : Kept (fun _ => False) w3 W) => rremove_any _ want p W (HT3.out.row.kept hk (fun _ _ h => h)) (by omega) (by omega) HT3.out.small
          rw [hE] at HB
          have HB := Lib.hid HB
          clear hE
          have HA := Lib.hid (remove_root w3 g p (by omega) q1 q2)
          clear q1 q2 hbl hln hpath HREM
          go_wp2_with fail
          refine HA.out.mono ?_
          rintro e w4 ⟨rfl, k4⟩
          have K4 := Lib.hid k4; clear k4
          go_wp2_with fail
          refine (HB.out _ K4.out).mono ?_
          rintro e w5 ⟨v5, rfl, _, k5⟩
          have HE : Hid (∃ mv ts want, TwoT w w5 g mv u5 ts want (8 * (k + 1))) := ⟨mv, ts, want, HT3.out.on (K4.out.then k5) (by omega)⟩
          clear k5
          go_wp2_with fail
          go_roundw
          case rel => first | exact ⟨k + 1, g, by omega, by go_num, rfl, HE⟩ | ((repeat apply Exists.intro); exact ⟨⟨k + 1, g, by omega, by go_num, rfl, HE⟩, rfl⟩)
          case measure => simp [intOf]; omega
        · have HB := fun W (hk : Kept (fun _ => False) w3 W) => rremove_any _ want p W (HT3.out.row.kept hk (fun _ _ h => h)) (by omega) (by omega) HT3.out.small
          rw [hE] at HB
          have HB := Lib.hid HB
          clear hE
          have HA := Lib.hid (remove_none w3 g mv ts p HT3.out.tree (by omega) q1 q2 q3)
          clear q1 q2 q3 hbl hln hpath HREM
          go_wp2_with fail
          refine HA.out.mono ?_
          rintro e w4 ⟨rfl, k4⟩
          have K4 := Lib.hid k4; clear k4
          go_wp2_with fail
          refine (HB.out _ K4.out).mono ?_
          rintro e w5 ⟨v5, rfl, _, k5⟩
          have HE : Hid (∃ mv ts want, TwoT w w5 g mv u5 ts want (8 * (k + 1))) := ⟨mv, ts, want, HT3.out.on (K4.out.then k5) (by omega)⟩
          clear k5
          go_wp2_with fail
          go_roundw
          case rel => first | exact ⟨k + 1, g, by omega, by go_num, rfl, HE⟩ | ((repeat apply Exists.intro); exact ⟨⟨k + 1, g, by omega, by go_num, rfl, HE⟩, rfl⟩)
          case measure => simp [intOf]; omega
        · have HB := fun W (hk : Kept (fun _ => False) w3 W) => rremove_any _ want p W (HT3.out.row.kept hk (fun _ _ h => h)) (by omega) (by omega) HT3.out.small
          rw [hE] at HB
          have HB := Lib.hid HB
          clear hE
          have HA := Lib.hid (remove_state w3 g mv ts p HT3.out.tree hpath (by omega) (by omega) q1 q2 q3 q4)
          clear q1 q2 q3 q4 hbl hln hpath HREM
          go_wp2_with fail
          refine HA.out.mono ?_
          rintro e w4 ⟨rfl, k4⟩
          have K4 := Lib.hid k4; clear k4
          go_wp2_with fail
          refine (HB.out _ K4.out).mono ?_
          rintro e w5 ⟨v5, rfl, _, k5⟩
          have HE : Hid (∃ mv ts want, TwoT w w5 g mv u5 ts want (8 * (k + 1))) := ⟨mv, ts, want, HT3.out.on (K4.out.then k5) (by omega)⟩
          clear k5
          go_wp2_with fail
          go_roundw
          case rel => first | exact ⟨k + 1, g, by omega, by go_num, rfl, HE⟩ | ((repeat apply Exists.intro); exact ⟨⟨k + 1, g, by omega, by go_num, rfl, HE⟩, rfl⟩)
          case measure => simp [intOf]; omega
        · have HB := fun W (hk : Kept (fun _ => False) w3 W) => rremove_any _ want p W (HT3.out.row.kept hk (fun _ _ h => h)) (by omega) (by omega) HT3.out.small
          rw [hE] at HB
          have HB := Lib.hid HB
          clear hE
          have HA := Lib.hid (remove_ok w3 g mv ts p HT3.out.tree hpath HT3.out.both.nodup (by omega) (by omega) q1 q2 q3 q4)
          have HBO := Lib.hid (HT3.out.both.rem ((memS_iff _ _).1 q3) q4)
          have HLE : Hid ((remT ts p).length ≤ 8 * (k + 1)) := by
            have := length_remT HT3.out.both.nodup ((memS_iff _ _).1 q3)
            show _ ≤ _; omega
          generalize remT ts p = ts' at HA HBO HLE
          generalize remS want p = want' at HB HBO
          clear q1 q2 q3 q4 hbl hln hpath HREM
          go_wp2_with fail
          refine HA.out.mono ?_
          rintro e w4 ⟨g', m', rfl, ht4, _, _, _, k4⟩
          have K4 := Lib.hid k4; have HT4 := Lib.hid ht4; clear k4 ht4
          go_wp2_with fail
          refine (HB.out _ K4.out).mono ?_
          rintro e w5 ⟨v5, rfl, hs5, k5⟩
          have HE : Hid (∃ mv ts want, TwoT w w5 g' mv v5 ts want (8 * (k + 1))) := ⟨_, ts', want', ⟨HT4.out.stay k5, (by first | exact hs5 rfl | exact hs5 trivial), HBO.out, HLE.out, (HT3.out.kept.then K4.out).then k5⟩⟩
          clear k5 hs5
          go_wp2_with fail
          go_roundw
          case rel => first | exact ⟨k + 1, g', by omega, by go_num, rfl, HE⟩ | ((repeat apply Exists.intro); exact ⟨⟨k + 1, g', by omega, by go_num, rfl, HE⟩, rfl⟩)
          case measure => simp [intOf]; omega
      | false =>
        go_wp2_with fail
        have hcell : ∀ W, Kept (fun _ => False) (wr.alloc (.cells #[.bool false, .slice pa pn pc, .string raw] 39)) W → W.cell? ⟨wr.heap.size, 0, none⟩ = some (.bool false) := fun W hk => (hk.cell (p := ⟨wr.heap.size, 0, none⟩) (by simp) (fun h => h)).trans (by go_simp)
        generalize wr.alloc (.cells #[.bool false, .slice pa pn pc, .string raw] 39) = wx at HOF HTX hcell ⊢
        generalize wr.heap.size = bx at hcell ⊢
        have HCX := Lib.hid hcell
        clear hcell c0' c1' c2'
        refine HOF.out.mono ?_
        rintro e w3 ⟨rfl, k3⟩
        have HT3 := Lib.hid (HTX.out.on k3 (Nat.le_refl _))
        have hc3 := HCX.out w3 k3
        clear k3 HTX HOF
        have hbl := HT3.out.both.len
        have hln := HT3.out.len
        cases hn : namesS p with
        | none =>
          have HA := Lib.hid (add_no w3 g p (by omega) hn)
          have HB := Lib.hid (fun W (hk : Kept (fun _ => False) w3 W) => radd_no _ want p W (HT3.out.row.kept hk (fun _ _ h => h)) (by omega) hn)
          clear hn hbl hln
          go_wp2_with fail
          refine HA.out.mono ?_
          rintro e w4 ⟨rfl, k4⟩
          have K4 := Lib.hid k4; clear k4
          go_wp2_with fail
          refine (HB.out _ K4.out).mono ?_
          rintro e w5 ⟨rfl, k5⟩
          have HE : Hid (∃ mv ts want, TwoT w w5 g mv u5 ts want (8 * (k + 1))) := ⟨mv, ts, want, HT3.out.on (K4.out.then k5) (by omega)⟩
          clear k5
          go_wp2_with fail
          go_roundw
          case rel => first | exact ⟨k + 1, g, by omega, by go_num, rfl, HE⟩ | ((repeat apply Exists.intro); exact ⟨⟨k + 1, g, by omega, by go_num, rfl, HE⟩, rfl⟩)
          case measure => simp [intOf]; omega
        | some ys =>
          have HA := Lib.hid (add_ok w3 g mv ts p ys HT3.out.tree (by omega) hn (by omega))
          have HB := Lib.hid (fun W (hk : Kept (fun _ => False) w3 W) => radd_ok _ want p ys W (HT3.out.row.kept hk (fun _ _ h => h)) (by omega) hn (by omega) (by omega) HT3.out.small)
          have HBO := Lib.hid (HT3.out.both.add hn)
          have HLE : Hid ((addL (fun k => pathS (ys.take k)) ys.length ts).length ≤ 8 * (k + 1)) := by
            have h1 := length_addL (fun k => pathS (ys.take k)) ys.length ts
            have h2 := (pathS_names hn).2.2
            show _ ≤ _; omega
          generalize addL (fun k => pathS (ys.take k)) ys.length ts = ts' at HA HBO HLE
          generalize addS want p = want' at HB HBO
          clear hn hbl hln
          go_wp2_with fail
          refine HA.out.mono ?_
          rintro e w4 ⟨g', m', rfl, ht4, _, _, _, k4⟩
          have K4 := Lib.hid k4; have HT4 := Lib.hid ht4; clear k4 ht4
          go_wp2_with fail
          refine (HB.out _ K4.out).mono ?_
          rintro e w5 ⟨v5, rfl, hs5, k5⟩
          have HE : Hid (∃ mv ts want, TwoT w w5 g' mv v5 ts want (8 * (k + 1))) := ⟨_, ts', want', ⟨HT4.out.stay k5, hs5, HBO.out, HLE.out, (HT3.out.kept.then K4.out).then k5⟩⟩
          clear k5 hs5
          go_wp2_with fail
          go_roundw
          case rel => first | exact ⟨k + 1, g', by omega, by go_num, rfl, HE⟩ | ((repeat apply Exists.intro); exact ⟨⟨k + 1, g', by omega, by go_num, rfl, HE⟩, rfl⟩)
          case measure => simp [intOf]; omega
    · obtain rfl : k = K := by omega
      have HE : Hid (TwoT w wr g mv u5 ts want 112) := htw.on (Kept.refl _ _) (by omega)
      clear htw
      go_wp2_with fail
      go_ret2
      exact ⟨g, mv, _, ts, want, rfl, HE.out⟩

theorem play_any (v : Value) (N B : Nat) (w : World) (h : OpsL w v N B) :
    Calls Tryd.prog 8 #[v] w fun e w' => ∃ g mv v ts want, e = .returned (.tuple #[.pointer (some ⟨g, 0, none⟩), v]) ∧ TwoT w w' g mv v ts want 112 := by
  obtain ⟨a, c, rfl, _, _⟩ := h.form
  exact play_at a N c B w h
end Go.Proofs.YtndedphkgkmckaaDoor
/-
  Trees of paths: what lies below the root, the path above, and how many children there are.
-/
namespace Go.Proofs.YtndedphkgkmckaaDoor
open Go.RowKit
set_option linter.unusedSimpArgs false
set_option linter.unusedVariables false

theorem within_root {x : ByteArray} (hx : IsPath x) : withinS x rootS = true := by
  obtain ⟨xs, h⟩ := isPath_names hx
  exact (within_names h names_rootS).2 ⟨Nat.zero_le _, by simp⟩
theorem isPath_rootS : IsPath rootS := by unfold IsPath; rw [names_rootS]; rfl
theorem within_less {p x : ByteArray} (hp : IsPath p) (hx : IsPath x) (hw : withinS x p = true) (hne : x ≠ p) : compareS p x < 0 := by
  obtain ⟨d, hF, _⟩ := ordF hp hx hp
  have h1 := hF.up hw
  have h2 : compareS p x ≠ 0 := fun e => hne ((compareS_zero hp hx).1 e).symm
  omega

/-- What lies below a path, in order: as the reference has it. -/
theorem Both.below_list {ts want : List ByteArray} (h : Both ts want) {p : ByteArray} (hp : p ∈ want) {r : List ByteArray} (hr : SortedP r) (hm : ∀ x, x ∈ r ↔ x ∈ ts ∧ keepBe p x = true) : p :: r = belowS want p := by
  have hip := h.sorted.2 p hp
  obtain ⟨xs, hx⟩ := isPath_names hip
  have hself : withinS p p = true := (within_names hx hx).2 ⟨Nat.le_refl _, List.take_length.symm⟩
  have hk : ∀ x, keepBe p x = true ↔ x ≠ p ∧ withinS x p = true := fun x => by
    unfold keepBe
    rw [Bool.and_eq_true, ne_list, decide_eq_true_iff]
  have hb : belowS want p = want.filter fun q => withinS q p := if_pos ((memS_iff _ _).2 hp)
  rw [hb]
  refine sortedP_unique ⟨?_, fun x hx => ?_⟩ ⟨h.sorted.1.filter _, fun x hx => h.sorted.2 x (List.mem_filter.1 hx).1⟩ fun x => ?_
  · rw [List.pairwise_cons]
    refine ⟨fun x hx => ?_, hr.1⟩
    have h1 := (hm x).1 hx
    have h2 := (hk x).1 h1.2
    exact within_less hip (hr.2 x hx) h2.2 h2.1
  · rcases List.mem_cons.1 hx with rfl | hx
    · exact hip
    · exact hr.2 x hx
  · rw [List.mem_cons, hm, List.mem_filter, h.mem, hk]
    constructor
    · rintro (rfl | ⟨h1, h2, h3⟩)
      · exact ⟨(h.mem x).1 hp, hself⟩
      · exact ⟨Or.inr h1, h3⟩
    · rintro ⟨h1 | h1, h2⟩
      · refine Or.inl ?_
        subst h1
        have hn := (within_names names_rootS hx).1 h2
        have e : xs = [] := List.eq_nil_of_length_eq_zero (by simpa using hn.1)
        rw [e] at hx
        exact namesS_inj names_rootS hx
      · by_cases e : x = p
        · exact Or.inl e
        · exact Or.inr ⟨h1, e, h2⟩
theorem Both.below_all {ts want : List ByteArray} (h : Both ts want) : belowS want rootS = want := by
  have hp : rootS ∈ want := (h.mem _).2 (Or.inl rfl)
  have hb : belowS want rootS = want.filter fun q => withinS q rootS := if_pos ((memS_iff _ _).2 hp)
  rw [hb, List.filter_eq_self]
  exact fun x hx => within_root (h.sorted.2 x hx)

theorem parent_root : parentS rootS = none := by unfold parentS; rw [names_rootS]
/-- The path above one of a tree: it is in the tree, too. -/
theorem Both.parent {ts want : List ByteArray} (h : Both ts want) {x : ByteArray} (hx : x ∈ ts) : ∃ up, parentS x = some up ∧ hasS ts up = true ∧ up ∈ want ∧ keepCh up x = true ∧ ∀ p, keepCh p x = true → p = up := by
  obtain ⟨ys, hy⟩ := isPath_names (h.paths x hx)
  have hce : x = pathS (ys.take ys.length) := by rw [List.take_length]; exact (pathS_names hy).1
  have h0 : 0 < ys.length := by
    rcases Nat.eq_zero_or_pos ys.length with e | e
    · exfalso
      have e2 : ys = [] := List.eq_nil_of_length_eq_zero e
      rw [e2] at hy
      exact h.noroot (by rw [namesS_inj names_rootS hy]; exact hx)
    · exact e
  have hpa : parentS x = some (pathS (ys.take (ys.length - 1))) := by
    conv => lhs; rw [hce]
    exact parent_take hy ys.length h0 (Nat.le_refl _)
  have hup : pathS (ys.take (ys.length - 1)) = rootS ∨ pathS (ys.take (ys.length - 1)) ∈ ts := by
    by_cases h1 : ys.length = 1
    · refine Or.inl ?_
      rw [h1]; simp [pathS_nil]
    · exact Or.inr (h.closed x ys hx hy _ (by omega) (by omega))
  refine ⟨_, hpa, ?_, (h.mem _).2 hup, ?_, fun p hk => ?_⟩
  · unfold hasS
    rcases hup with e | e
    · rw [root_iff.2 e]; rfl
    · rw [(memS_iff _ _).2 e]; simp
  · unfold keepCh
    rw [hpa, str_eq]; simp
  · unfold keepCh at hk
    rw [hpa, str_eq, decide_eq_true_iff] at hk
    exact hk.symm

/-- How many children each of some paths has, together. -/
def sumC (L ts : List ByteArray) : Nat := (L.map fun p => (ts.filter (keepCh p)).length).sum
theorem sumC_nil (L : List ByteArray) : sumC L [] = 0 := by
  induction L with
  | nil => rfl
  | cons p t ih => simp only [sumC, List.map_cons, List.filter_nil, List.length_nil, List.sum_cons] at ih ⊢; omega
theorem sumC_cons (L : List ByteArray) (x : ByteArray) (ts : List ByteArray) : sumC L (x :: ts) = sumC L ts + (L.filter fun p => keepCh p x).length := by
  induction L with
  | nil => rfl
  | cons p t ih =>
    simp only [sumC, List.map_cons, List.sum_cons, List.filter_cons] at ih ⊢
    cases hk : keepCh p x with
    | true => simp only [if_true, List.length_cons]; omega
    | false => simp only [Bool.false_eq_true, if_false]; omega
theorem filter_one {f : ByteArray → Bool} {u : ByteArray} : ∀ {L : List ByteArray}, L.Nodup → u ∈ L → f u = true → (∀ p, f p = true → p = u) → (L.filter f).length = 1
  | [], _, hm, _, _ => by cases hm
  | a :: t, hn, hm, hu, hf => by
    rw [List.nodup_cons] at hn
    by_cases e : a = u
    · subst e
      have h2 : t.filter f = [] := by
        rw [List.filter_eq_nil_iff]
        intro b hb hfb
        exact hn.1 (by rw [← hf b hfb]; exact hb)
      rw [List.filter_cons, if_pos hu, h2]; rfl
    · have hmt : u ∈ t := (List.mem_cons.1 hm).resolve_left fun e2 => e e2.symm
      have hfa : ¬ f a = true := fun h => e (hf a h)
      rw [List.filter_cons, if_neg hfa]
      exact filter_one hn.2 hmt hu hf
theorem sumC_all {L : List ByteArray} : ∀ {ts : List ByteArray}, (∀ x ∈ ts, (L.filter fun p => keepCh p x).length = 1) → sumC L ts = ts.length
  | [], _ => sumC_nil L
  | x :: t, h => by
    rw [sumC_cons, sumC_all (fun y hy => h y (List.mem_cons_of_mem _ hy)), h x (by simp)]; rfl
theorem Both.sum {ts want : List ByteArray} (h : Both ts want) : sumC want ts = ts.length := by
  refine sumC_all fun x hx => ?_
  obtain ⟨up, _, _, h3, h4, h5⟩ := h.parent hx
  exact filter_one h.sorted.nodup h3 h4 h5
theorem sumC_take (L ts : List ByteArray) (k : Nat) (hk : k < L.length) : sumC (L.take (k + 1)) ts = sumC (L.take k) ts + (ts.filter (keepCh (L.getD k ⟨#[]⟩))).length := by
  unfold sumC
  rw [List.take_succ_eq_append_getElem hk, List.map_append, List.sum_append]
  simp [List.getD, hk]
theorem sumC_le (L ts : List ByteArray) : sumC L ts ≤ L.length * ts.length := by
  induction L with
  | nil => simp [sumC]
  | cons p t ih =>
    simp only [sumC, List.map_cons, List.sum_cons, List.length_cons] at ih ⊢
    have := List.length_filter_le (keepCh p) ts
    rw [Nat.succ_mul]; omega
theorem those_length {ts r : List ByteArray} {f : ByteArray → Bool} (hts : ts.Nodup) (hr : SortedP r) (hm : ∀ x, x ∈ r ↔ x ∈ ts ∧ f x = true) : r.length = (ts.filter f).length := by
  have h2 : r.Perm (ts.filter f) := (List.perm_ext_iff_of_nodup hr.nodup (hts.filter f)).2 fun a => by rw [hm, List.mem_filter]
  exact h2.length_eq
end Go.Proofs.YtndedphkgkmckaaDoor
/-
  The reference's Children of lists of paths.
-/
namespace Go.Proofs.YtndedphkgkmckaaDoor
open Go.RowKit
set_option linter.unusedSimpArgs false
set_option linter.unusedVariables false

def lenN (p : ByteArray) : Nat := ((namesS p).getD []).length
theorem lenN_le (p : ByteArray) : lenN p ≤ 8 := by
  unfold lenN
  cases h : namesS p with
  | none => simp
  | some l => exact (pathS_names h).2.2
/-- The paths of a list one step below p. -/
def childS (l : List ByteArray) (p : ByteArray) : List ByteArray := (belowS l p).filter fun q => decide (lenN q = lenN p + 1)

set_option maxRecDepth 100000 in
set_option maxHeartbeats 3200000 in
theorem rchildren_any (v : Value) (xs : List ByteArray) (p : ByteArray) (w : World) (h : Strs w v xs) (hl : xs.length ≤ 100000) (hz : ∀ x ∈ xs, x.size ≤ 100000) (hp : p.size ≤ 100000) :
    Calls Tryd.prog 17 #[v, .string p] w fun e w' => ∃ v', e = .returned v' ∧ Strs w' v' (childS xs p) ∧ Kept (fun _ => False) w w' := by
  have HB := Lib.hid (rbelow_any v xs p w h hl hz)
  have hbz : ∀ x ∈ belowS xs p, x.size ≤ 100000 := fun x hx => by
    unfold belowS at hx
    split at hx
    · exact hz x (List.mem_filter.1 hx).1
    · cases hx
  have hbl : (belowS xs p).length ≤ 100000 := by
    unfold belowS
    split
    · exact Nat.le_trans (List.length_filter_le _ _) hl
    · simp
  have HR : Hid (childS xs p = (belowS xs p).filter fun q => decide (lenN q = lenN p + 1)) := Lib.hid rfl
  generalize belowS xs p = bs at HB hbz hbl HR
  obtain ⟨f, hf⟩ : ∃ f : ByteArray → Bool, f = fun q => decide (lenN q = lenN p + 1) := ⟨_, rfl⟩
  rw [← hf] at HR
  have HF := Lib.hid hf
  have HBZ := Lib.hid hbz
  have HPN := Lib.hid (fun W => qnames_any p hp W)
  have hlp := lenN_le p
  have HLP : Hid (((namesS p).getD []).length = lenN p) := Lib.hid rfl
  obtain ⟨a, c, rfl, _, _⟩ := h.form
  generalize xs.length = xn at HB ⊢
  clear hf hbz h hl hz
  go_enter Tryd.func17, Tryd.ntmps17
  go_wp2_with fail
  refine HB.out.mono ?_
  rintro e w1 ⟨v1, rfl, ho1, k1⟩
  have HS := Lib.hid (Strs.ofOwn ho1)
  have K1 := Lib.hid k1
  obtain ⟨a1, c1, rfl, _, _⟩ := (Strs.ofOwn ho1).form
  obtain ⟨n, hn⟩ : ∃ n, n = bs.length := ⟨_, rfl⟩
  rw [← hn] at HS hbl ⊢
  have HN := Lib.hid hn
  clear ho1 k1 hn
  go_wp2_with fail
  go_loopw [5, 12] (fun ov iv wr => ∃ (k m : Nat) (aa : Option Addr) (cc : Nat), k ≤ n ∧ m ≤ k ∧ iv = .int .i64 k ∧ ov = .slice aa m cc ∧ Hid (((bs.take k).filter f).length = m) ∧ Hid (OwnS wr w1.heap.size (.slice aa m cc) ((bs.take k).filter f)) ∧ Hid (Kept (fun _ => False) w1 wr)) (fun _ iv _ => n - (intOf iv).toNat)
  case atStart => exact ⟨0, 0, none, 0, by omega, by omega, rfl, rfl, rfl, OwnS.nil _ _, Kept.refl _ _⟩
  case round =>
    obtain ⟨k, m, aa, cc, hk, hmk, rfl, rfl, hml, ho, hkw⟩ := hrel
    by_cases hlt : k < n
    · have l1 : (k : Int) < (n : Int) := by omega
      have l0 : (0 : Int) ≤ (k : Int) := by omega
      obtain ⟨g, off, rfl, _, hcell⟩ := (HS.out.kept hkw.out (fun _ _ h => h)).at (k := k) (by have := HN.out; omega)
      have hxz := HBZ.out (bs.getD k ⟨#[]⟩) (by rw [List.getD_eq_getElem?_getD, List.getElem?_eq_getElem (by have := HN.out; omega)]; exact List.getElem_mem _)
      have HQN := Lib.hid (fun W => qnames_any (bs.getD k ⟨#[]⟩) hxz W)
      have hlq := lenN_le (bs.getD k ⟨#[]⟩)
      have HLQ : Hid (((namesS (bs.getD k ⟨#[]⟩)).getD []).length = lenN (bs.getD k ⟨#[]⟩)) := Lib.hid rfl
      have hfd : f (bs.getD k ⟨#[]⟩) = decide (lenN (bs.getD k ⟨#[]⟩) = lenN p + 1) := by rw [HF.out]
      obtain ⟨p1, hp1⟩ : ∃ p1, p1 = lenN p + 1 := ⟨_, rfl⟩
      have hwr : IntKind.i64.wrap ((lenN p : Int) + 1) = (p1 : Int) := by rw [IntWalk.i64_in _ (by omega)]; omega
      rw [← hp1] at hfd
      have HWR := Lib.hid hwr
      clear hp1 hwr
      by_cases hq : lenN (bs.getD k ⟨#[]⟩) = p1
      · rw [decide_eq_true hq] at hfd
        have HNX := Lib.hid (filter_take_yes (f := f) (by have := HN.out; omega) hfd)
        have hb : ((lenN (bs.getD k ⟨#[]⟩) : Int) == (p1 : Int)) = true := by rw [hq]; simp
        clear hfd hq
        generalize bs.getD k ⟨#[]⟩ = x at hcell HQN HLQ HNX hxz hlq hb
        generalize hacc : (bs.take k).filter f = acc at ho hml HNX
        clear hacc hxz
        go_wp2_with fail
        refine (HQN.out _).mono ?_
        rintro e w2 ⟨v2, rfl, hr2⟩
        obtain ⟨a2, c2, rfl, _, _⟩ := hr2.row.form
        rw [HLQ.out]
        have K2 := Lib.hid hr2.kept
        clear hr2
        go_wp2_with fail
        refine (HPN.out _).mono ?_
        rintro e w3 ⟨v3, rfl, hr3⟩
        obtain ⟨a3, c3, rfl, _, _⟩ := hr3.row.form
        rw [HLP.out]
        have K3 := Lib.hid (K2.out.then hr3.kept)
        have HO3 := Lib.hid (ho.out.kept K3.out (fun _ _ h => h))
        have HK3 := Lib.hid (hkw.out.then K3.out)
        have hwr := HWR.out
        clear hr3
        go_wp2_with (at_builtin; refine wpList_pushS (by rfl) _ _ rfl rfl w1.heap.size _ acc w3.heap.size x rfl rfl (HO3.out.alloc _) (by go_simp) (by have := hml.out; omega) (by have := HK3.out.size; simp; omega) ?_)
        intro a' c' w4 hown hk4
        have hll := hml.out
        have HO4 : Hid (OwnS w4 w1.heap.size (.slice a' (m + 1) c') ((bs.take (k + 1)).filter f)) := by
          have h2 := hown
          rw [hll, ← HNX.out] at h2
          exact h2
        have HL4 : Hid (((bs.take (k + 1)).filter f).length = m + 1) := by rw [HNX.out, List.length_append, hll]; rfl
        have HK4 : Hid (Kept (fun _ => False) w1 w4) := (HK3.out.then (Kept.alloc _ _ _)).trans hk4 (fun _ _ h => h) (fun i hi e => by have := (HO3.out.bound i e).1; omega)
        clear hown hk4 hwr
        go_wp2_with fail
        go_roundw
        case rel => first | exact ⟨k + 1, m + 1, a', c', by omega, by omega, by go_num, by rw [hll], HL4, HO4, HK4⟩ | ((repeat apply Exists.intro); exact ⟨⟨k + 1, m + 1, a', c', by omega, by omega, by go_num, by rw [hll], HL4, HO4, HK4⟩, rfl⟩)
        case measure => simp [intOf]; omega
      · rw [decide_eq_false hq] at hfd
        have HNX := Lib.hid (filter_take_no (f := f) (by have := HN.out; omega) hfd)
        have hb : ((lenN (bs.getD k ⟨#[]⟩) : Int) == (p1 : Int)) = false := beq_eq_false_iff_ne.2 (by omega)
        clear hfd
        generalize bs.getD k ⟨#[]⟩ = x at hcell HQN HLQ hxz hlq hb hq
        clear hxz hq
        go_wp2_with fail
        refine (HQN.out _).mono ?_
        rintro e w2 ⟨v2, rfl, hr2⟩
        obtain ⟨a2, c2, rfl, _, _⟩ := hr2.row.form
        rw [HLQ.out]
        have K2 := Lib.hid hr2.kept
        clear hr2
        go_wp2_with fail
        refine (HPN.out _).mono ?_
        rintro e w3 ⟨v3, rfl, hr3⟩
        obtain ⟨a3, c3, rfl, _, _⟩ := hr3.row.form
        rw [HLP.out]
        have K3 := Lib.hid (K2.out.then hr3.kept)
        have HO3 : Hid (OwnS w3 w1.heap.size (.slice aa m cc) ((bs.take (k + 1)).filter f)) := by rw [HNX.out]; exact ho.out.kept K3.out (fun _ _ h => h)
        have HL3 : Hid (((bs.take (k + 1)).filter f).length = m) := by rw [HNX.out]; exact hml.out
        have HK3 := Lib.hid (hkw.out.then K3.out)
        have hwr := HWR.out
        clear hr3
        go_wp2_with fail
        clear hwr
        go_roundw
        case rel => first | exact ⟨k + 1, m, aa, cc, by omega, by omega, by go_num, rfl, HL3, HO3, HK3⟩ | ((repeat apply Exists.intro); exact ⟨⟨k + 1, m, aa, cc, by omega, by omega, by go_num, rfl, HL3, HO3, HK3⟩, rfl⟩)
        case measure => simp [intOf]; omega
    · obtain rfl : k = n := by omega
      have HFIN : Hid (OwnS wr w1.heap.size (.slice aa m cc) (childS xs p)) := by
        have h2 := ho.out
        rw [HN.out, List.take_length, ← HR.out] at h2
        exact h2
      have KF := Lib.hid (K1.out.then hkw.out)
      go_wp2_with fail
      go_ret
      exact ⟨_, rfl, Strs.ofOwn HFIN.out, KF.out⟩
end Go.Proofs.YtndedphkgkmckaaDoor
/-
  A slice of strings that came in; slices.Clone of strings.
-/
namespace Go.Proofs.YtndedphkgkmckaaDoor
open Go.RowKit Go.ChangeShapes Go.WideShapes Go.ChangeAt Go.Joins
set_option linter.unusedSimpArgs false
set_option linter.unusedVariables false

theorem strv_getD (xs : List ByteArray) (i : Nat) (hi : i < xs.length) : (xs.map Value.string)[i]? = some (.string (xs.getD i ⟨#[]⟩)) := by simp [List.getD, hi]

set_option maxRecDepth 100000 in
set_option maxHeartbeats 800000 in
theorem sclone_any (v : Value) (xs : List ByteArray) (w : World) (h : Strs w v xs) (hl : xs.length ≤ 256) :
    Calls Tryd.prog 12 #[v] w fun e w' => ∃ v', e = .returned v' ∧ w'.ownsRow w.heap.size 9 1 v' xs.length (xs.map Value.string) ∧ Kept (fun _ => False) w w' := by
  obtain ⟨i0, hi, hz0, hz1, hz2⟩ := info_parts info_strS
  have q := fun (W : World) (a : Option Addr) (n c n' c' : Nat) => Lib.run_eql_slice_nil (P := Tryd.prog) W 25 9 a n c n' c' Tryd.underlying25
  rcases h with ⟨rfl, rfl⟩ | ⟨g, off, cap, rfl, h1, h2, h3, h4⟩
  · go_enter Tryd.func12, Tryd.ntmps12
    go_wp2_with fail
    go_ret
    exact ⟨_, rfl, World.ownsRow_nil _ _ _ _, Kept.refl _ _⟩
  · have hown : (w.alloc (.cells #[] 9)).ownsRow w.heap.size 9 1 (.slice (some ⟨w.heap.size, 0, none⟩) 0 0) 0 [] := ⟨by simp, Or.inr ⟨w.heap.size, 0, #[], rfl, Nat.le_refl _, heap_alloc_new w _, Nat.le_refl _, Nat.zero_le _, by simp, by simp⟩⟩
    have hnews : ∀ j u, (xs.map Value.string)[j]? = some u → (w.alloc (.cells #[] 9)).cell? ((⟨g, off, none⟩ : Addr).add j) = some u := fun j u hu => by
      have hadd : (⟨g, off, none⟩ : Addr).add j = ⟨g, off + j, none⟩ := by unfold Addr.add; split <;> simp_all
      have hj : j < xs.length := by
        have := (List.getElem?_eq_some_iff.1 hu).1
        simpa using this
      rw [hadd, World.cell?_alloc_past _ _ _ h3, h4 j hj, ← strv_getD xs j hj]; exact hu
    have hone : ∀ u ∈ xs.map Value.string, u.oneCell' = true := fun u hu => by
      simp only [List.mem_map] at hu
      obtain ⟨s, _, rfl⟩ := hu
      rfl
    obtain ⟨n, hn⟩ : ∃ n, n = xs.length := ⟨_, rfl⟩
    have hlen : (xs.map Value.string).length = n * 1 := by simp [hn]
    rw [← hn] at hl ⊢
    have HO := Lib.hid hown; have HN := Lib.hid hnews; have H1 := Lib.hid hone; have HL := Lib.hid hlen
    clear hown hnews hone hlen h1 h2 h3 h4 hn
    generalize xs.map Value.string = vs at *
    go_enter Tryd.func12, Tryd.ntmps12
    go_wp2_with (at_builtin; refine wpList_append_own_at _ rfl _ _ _ rfl w.heap.size 9 i0 _ 1 16 Tryd.underlying25 hi hz0 hz1 hz2 rfl (by omega) (.slice (some ⟨w.heap.size, 0, none⟩) 0 0) 0 [] rfl HO.out ⟨g, off, none⟩ n cap vs rfl HL.out HN.out H1.out (by unfold maxLen; omega) (by omega) (by simp) ?_)
    intro v' w1 hown1 hgrow _ hat
    have hk := (Kept.alloc (fun _ => False) w (.cells #[] 9)).trans (T := fun _ => False) (Kept.ofGrown (S := fun k => k = w.heap.size) hgrow (fun k e => by simp [Value.ownBlock] at e; exact e.symm)) (fun _ _ h => h) (fun i hi e => by omega)
    have HO1 := Lib.hid hown1; have HK := Lib.hid hk
    clear hown1 hgrow hat hk
    go_wp2
    go_ret
    exact ⟨_, rfl, by simpa using HO1.out, HK.out⟩


/-- Strings of a call's argument: they lie in memory, or there is none, at whatever address. -/
def StrsIn (w : World) (v : Value) (xs : List ByteArray) : Prop := Strs w v xs ∨ ∃ x, v = .slice (some x) 0 0 ∧ xs = []
theorem StrsIn.form {w : World} {v : Value} {xs : List ByteArray} (h : StrsIn w v xs) : ∃ a c, v = .slice a xs.length c ∧ xs.length ≤ c ∧ c ≤ maxLen := by
  rcases h with h | ⟨x, rfl, rfl⟩
  · exact h.form
  · exact ⟨_, _, rfl, Nat.le_refl _, Nat.zero_le _⟩
theorem StrsIn.at {w : World} {a : Option Addr} {n c k : Nat} {xs : List ByteArray} (h : StrsIn w (.slice a n c) xs) (hk : k < xs.length) :
    ∃ g off, a = some ⟨g, off, none⟩ ∧ g < w.heap.size ∧ w.cell? ⟨g, off + k, none⟩ = some (.string (xs.getD k ⟨#[]⟩)) := by
  rcases h with (⟨_, rfl⟩ | ⟨g, off, cap, h, h1, h2, h3, h4⟩) | ⟨_, _, rfl⟩
  · simp at hk
  · cases h; exact ⟨g, off, rfl, h3, h4 k hk⟩
  · simp at hk
theorem StrsIn.kept {a b : World} {v : Value} {xs : List ByteArray} (h : StrsIn a v xs) (hk : Kept (fun _ => False) a b) : StrsIn b v xs := by
  rcases h with h | h
  · exact Or.inl (h.kept hk (fun _ _ h => h))
  · exact Or.inr h

set_option maxRecDepth 100000 in
theorem strs_in {H : Type} {enc : TypeId × Value → H} {W : World} {base : Nat} {v : Value} {d : DataW H} {p : List MemPlace} (o : Value.okWide Tryd.prog W .any base 25 v) (h : DataW.Trod enc Tryd.prog W 0 (fun _ => true) true 25 v d p) :
    ∃ xs, StrsIn W v xs ∧ ∀ s ∈ xs, s.size ≤ maxLen := by
  obtain ⟨a, len, cap, rfl⟩ := okWide_slice Tryd.underlying25 o
  obtain ⟨fuel, hf⟩ := h
  rcases Go.ChangeShapes.open_strings Tryd.underlying25 Tryd.underlying9 (by kernel_rfl) hf with ⟨hcs, _⟩ | ⟨x, l, c, ss, hcs, _, hl, hm, hz, _, hcell, hw⟩
  · simp [Value.cells] at hcs
    obtain ⟨rfl, rfl, rfl⟩ := hcs
    exact ⟨[], Or.inl (Or.inl ⟨rfl, rfl⟩), by simp⟩
  · simp [Value.cells] at hcs
    obtain ⟨rfl, rfl, rfl⟩ := hcs
    simp only [if_true] at hz
    by_cases h0 : cap = 0
    · subst h0
      obtain rfl : len = 0 := by omega
      exact ⟨[], Or.inr ⟨x, rfl, rfl⟩, by simp⟩
    · have h1 := hcell 0 (by omega)
      rw [show x.add 0 = x from rfl] at h1
      have hs := World.cell?_spot h1
      have hb := World.block_lt_of_cell? W _ h1
      obtain ⟨g, off, spot⟩ := x
      simp only at hs hb
      subst hs
      have hlen : (ss.take len).length = len := by simp; omega
      refine ⟨ss.take len, Or.inl (Or.inr ⟨g, off, cap, by rw [hlen], by omega, hm, hb, fun i hi => ?_⟩), fun s hs => hw s (List.mem_of_mem_take hs)⟩
      rw [hlen] at hi
      have hadd : (⟨g, off, none⟩ : Addr).add i = ⟨g, off + i, none⟩ := by unfold Addr.add; split <;> simp_all
      have := hcell i (by omega)
      rw [hadd] at this
      rw [this]
      have hil : i < ss.length := by omega
      simp [List.getD, hi, hil]
end Go.Proofs.YtndedphkgkmckaaDoor
/-
  arbaclaw07.PathTrees: the walk of the law.
-/
namespace Go.Proofs.YtndedphkgkmckaaDoor
open Go.RowKit
set_option linter.unusedSimpArgs false
set_option linter.unusedVariables false

theorem root_hasT (ts : List ByteArray) : hasS ts (⟨#[47]⟩ : ByteArray) = true := by
  unfold hasS
  rw [show ((⟨#[47]⟩ : ByteArray).toList == [47]) = true by rw [ByteArray.toList_eq]; rfl]
  rfl
theorem Both.has {ts want : List ByteArray} (h : Both ts want) (p : ByteArray) : hasS ts p = memS p want := by
  rw [Bool.eq_iff_iff, memS_iff, h.mem]
  unfold hasS
  rw [Bool.or_eq_true, memS_iff, beq_iff_eq, root_iff]

/-- The children of a path, in order: as the reference has them. -/
theorem Both.child_list {ts want : List ByteArray} (h : Both ts want) {p : ByteArray} {r : List ByteArray} (hr : SortedP r) (hm : ∀ x, x ∈ r ↔ x ∈ ts ∧ keepCh p x = true) : r = childS want p := by
  have hsub : ∀ x, x ∈ belowS want p ↔ p ∈ want ∧ x ∈ want ∧ withinS x p = true := fun x => by
    unfold belowS
    split
    · next hh => rw [List.mem_filter]; exact ⟨fun h2 => ⟨(memS_iff _ _).1 hh, h2⟩, fun h2 => h2.2⟩
    · next hh =>
      constructor
      · intro h2; cases h2
      · rintro ⟨h2, _⟩; exact absurd ((memS_iff _ _).2 h2) hh
  have hbs : SortedP (belowS want p) := by
    unfold belowS
    split
    · exact ⟨h.sorted.1.filter _, fun x hx => h.sorted.2 x (List.mem_filter.1 hx).1⟩
    · exact ⟨List.Pairwise.nil, fun x hx => by cases hx⟩
  refine sortedP_unique hr ⟨hbs.1.filter _, fun x hx => hbs.2 x (List.mem_filter.1 hx).1⟩ fun x => ?_
  unfold childS
  rw [hm, List.mem_filter, hsub, decide_eq_true_iff]
  constructor
  · rintro ⟨hx, hk⟩
    obtain ⟨up, _, _, huw, _, hu⟩ := h.parent hx
    obtain rfl := hu p hk
    obtain ⟨ys, hy⟩ := isPath_names (h.paths x hx)
    obtain ⟨h0, hpe⟩ := keep_parent hy (h.sorted.2 _ huw) hk
    have hxe : namesS p = some (ys.take (ys.length - 1)) := by rw [hpe]; exact names_take hy _
    refine ⟨⟨huw, (h.mem x).2 (Or.inr hx), (within_names hy hxe).2 ⟨by rw [List.length_take]; omega, by rw [List.length_take, show min (ys.length - 1) ys.length = ys.length - 1 by omega]⟩⟩, ?_⟩
    unfold lenN
    rw [hy, hxe]
    simp only [Option.getD_some, List.length_take]
    omega
  · rintro ⟨⟨hpw, hxw, hwi⟩, hl⟩
    obtain ⟨xs, hx⟩ := isPath_names (h.sorted.2 p hpw)
    obtain ⟨ys, hy⟩ := isPath_names (h.sorted.2 x hxw)
    unfold lenN at hl
    rw [hx, hy] at hl
    simp only [Option.getD_some] at hl
    have hn := (within_names hy hx).1 hwi
    have hxr : x ≠ rootS := fun e => by
      rw [e, names_rootS] at hy
      rw [← Option.some.inj hy] at hl
      simp at hl
    refine ⟨((h.mem x).1 hxw).resolve_left hxr, ?_⟩
    have hce : x = pathS (ys.take ys.length) := by rw [List.take_length]; exact (pathS_names hy).1
    unfold keepCh
    have hpa : parentS x = some (pathS (ys.take (ys.length - 1))) := by
      conv => lhs; rw [hce]
      exact parent_take hy ys.length (by omega) (Nat.le_refl _)
    rw [hpa, str_eq, decide_eq_true_iff, show ys.length - 1 = xs.length by omega]
    show pathS (ys.take xs.length) = p
    rw [← hn.2]
    exact (pathS_names hx).1.symm

theorem below_list (w : World) (g : Nat) (mv : Value) (ts want : List ByteArray) (p : ByteArray) (h : TreeL w g mv ts) (hb : Both ts want) (hl : ts.length ≤ 50000) (hp : p.size ≤ 1000000) :
    Calls Tryd.prog 11 #[.pointer (some ⟨g, 0, none⟩), .string p] w fun e w' => ∃ v, e = .returned v ∧ Strs w' v (belowS want p) ∧ Kept (fun _ => False) w w' := by
  cases hh : hasS ts p with
  | false =>
    refine (below_no w g mv ts p h hp hh).mono ?_
    rintro e w' ⟨rfl, hk⟩
    rw [hb.has] at hh
    exact ⟨_, rfl, by unfold belowS; rw [if_neg (by rw [hh]; decide)]; exact Or.inl ⟨rfl, rfl⟩, hk⟩
  | true =>
    refine (below_yes w g mv ts p h hb.paths hl hp hh).mono ?_
    rintro e w' ⟨v, r, rfl, hr, hs, hm, _, _, hk⟩
    rw [hb.has] at hh
    exact ⟨v, rfl, by rw [← hb.below_list ((memS_iff _ _).1 hh) hs hm]; exact hr, hk⟩

set_option maxRecDepth 100000 in
set_option maxHeartbeats 6400000 in
theorem trees_law (v : Value) (N : Nat) (s : ByteArray) (w : World) (h : OpsL w v N w.heap.size) (hs : s.size ≤ maxLen) :
    Calls Tryd.prog 3 #[v, .string s] w fun e w' => e = .returned (.bool true) ∧ Kept (fun _ => False) w w' := by
  obtain ⟨a0, c0, rfl, _, _⟩ := h.form
  have HO := Lib.hid h; clear h
  have HCU := Lib.hid (fun W => cut_any s hs W)
  have hcs := cutT_size s
  generalize cutT s = cs at HCU hcs
  clear hs
  go_enter Tryd.func3, Tryd.ntmps3
  go_wp2_with fail
  refine (awake7_any w).mono ?_
  rintro e w1 ⟨rfl, k1⟩
  have K1 := Lib.hid k1; clear k1
  go_wp2_with fail
  refine (play_any _ N _ w1 (HO.out.kept K1.out)).mono ?_
  rintro e w2 ⟨g, mv, v2, ts, want, rfl, htw⟩
  have HTW := Lib.hid htw
  have hln := htw.len
  have hbl := htw.both.len
  have hpaths := htw.both.paths
  obtain ⟨a2, c2, rfl, _, _⟩ := htw.row.form
  obtain ⟨L, hL⟩ : ∃ L, L = want.length := ⟨_, rfl⟩
  have hLc : L = ts.length + 1 := by omega
  have hLb : L ≤ 113 := by omega
  have HLT := tlenP_any w2 g mv _ _ htw.tree
  rw [← hLc] at HLT
  have HLT := Lib.hid HLT
  rw [← hL] at HTW ⊢
  have HLE := Lib.hid hL
  have HBE := Lib.hid (below_yes w2 g mv ts ⟨#[47]⟩ htw.tree hpaths (by omega) (by simp [ByteArray.size]) (root_hasT ts))
  clear htw hL hLc
  go_wp2_with fail
  refine HLT.out.mono ?_
  rintro e w3 ⟨rfl, rfl⟩
  go_wp2_with fail
  refine HBE.out.mono ?_
  rintro e w3 ⟨v3, r, rfl, hrow, hsr, hmr, hrl, _, k3⟩
  have hall : (⟨#[47]⟩ : ByteArray) :: r = want := by
    have h1 := HTW.out.both.below_list (p := rootS) ((HTW.out.both.mem _).2 (Or.inl rfl)) hsr hmr
    rw [HTW.out.both.below_all] at h1
    exact h1
  rw [hall] at hrow
  have HT3 := Lib.hid (HTW.out.on k3 (Nat.le_refl _))
  have heq := sequal_any v3 _ want want w3 hrow HT3.out.row
  rw [show decide (want = want) = true by simp] at heq
  have HEQ := Lib.hid heq
  clear hrow hsr hmr hrl k3 hall heq HBE HLT
  go_wp2_with fail
  refine HEQ.out.mono ?_
  rintro e w4 ⟨rfl, q, rfl⟩
  have HT4 := Lib.hid (HT3.out.on ((Kept.refl (fun _ => False) w3).drewN q) (Nat.le_refl _))
  clear HEQ
  generalize w3.drewN q = w4 at HT4 ⊢
  go_wp2_with fail
  refine (sclone_any _ want _ HT4.out.row (by have := HLE.out; omega)).mono ?_
  rintro e w5 ⟨v5, rfl, hown5, k5⟩
  have hos : OwnS w5 w4.heap.size v5 want := ⟨hown5⟩
  obtain ⟨a5, c5, rfl, _, _⟩ := (Strs.ofOwn hos).form
  rw [← HLE.out] at hos ⊢
  have HO5 := Lib.hid hos
  have HT5 := Lib.hid (HT4.out.on k5 (Nat.le_refl _))
  have hz5 := k5.size
  have K5 := Lib.hid k5
  clear hown5 hos k5
  go_wp2_with fail
  refine (HCU.out _).mono ?_
  rintro e w6 ⟨rfl, rfl⟩
  have hstr := strs_new w5 #[.string cs, .string ⟨#[47, 97]⟩, .string ⟨#[47, 98, 47, 97]⟩] 9 3 [cs, ⟨#[47, 97]⟩, ⟨#[47, 98, 47, 97]⟩] rfl rfl (by unfold maxLen; omega)
  have hka := Kept.alloc (fun _ => False) w5 (.cells #[.string cs, .string ⟨#[47, 97]⟩, .string ⟨#[47, 98, 47, 97]⟩] 9)
  obtain ⟨a6, c6, w6, hr6, ho6, hk6⟩ := append_strs_run (HO5.out.kept hka (fun _ _ h => h)) hstr (by have := HLE.out; simp; omega) (by simp; omega)
  have hkk : Kept (fun _ => False) w4 w6 := (K5.out.then hka).trans hk6 (fun _ _ h => h) (fun i hi e => by have := (HO5.out.bound i e).1; omega)
  have HT6 := Lib.hid (HT4.out.on hkk (Nat.le_refl _))
  have HS6 := Lib.hid (Strs.ofOwn ho6)
  have hpsz : ∀ x ∈ want ++ [cs, ⟨#[47, 97]⟩, ⟨#[47, 98, 47, 97]⟩], x.size ≤ 100000 := fun x hx => by
    rcases List.mem_append.1 hx with hx | hx
    · exact HT4.out.small x hx
    · simp only [List.mem_cons, List.not_mem_nil, or_false] at hx
      rcases hx with rfl | rfl | rfl
      · omega
      · simp [ByteArray.size]
      · simp [ByteArray.size]
  have hML : (want ++ [cs, ⟨#[47, 97]⟩, ⟨#[47, 98, 47, 97]⟩]).length ≤ 200 := by have := HLE.out; simp; omega
  generalize want ++ [cs, ⟨#[47, 97]⟩, ⟨#[47, 98, 47, 97]⟩] = ps at hr6 HS6 hpsz hML
  obtain ⟨M, hM⟩ : ∃ M, M = ps.length := ⟨_, rfl⟩
  rw [← hM] at hr6 HS6 hML
  have HM := Lib.hid hM; have HPZ := Lib.hid hpsz
  have HK6 := Lib.hid hkk
  have HR6 := Lib.hid hr6
  clear hr6 ho6 hk6 hstr hka hkk hpsz hM
  have HPA := Lib.hid HT6.out.both.paths
  have HLN := Lib.hid HT6.out.len
  clear hpaths hln hbl
  go_wp2_with (at_builtin; refine wpList_appendS_run (by rfl) _ _ _ _ rfl _ _ rfl rfl HR6.out ?_)
  clear HR6 HO5 HT5
  go_wp2_with fail
  go_loopw [39] (fun iv wr => ∃ k : Nat, k ≤ M ∧ iv = .int .i64 k ∧ Hid (Kept (fun _ => False) w6 wr)) (fun iv _ => M - (intOf iv).toNat)
  case atStart => exact ⟨0, by omega, rfl, Kept.refl _ _⟩
  case round =>
    obtain ⟨k, hk, rfl, hkw⟩ := hrel
    by_cases hlt : k < M
    · have l1 : (k : Int) < (M : Int) := by omega
      have l0 : (0 : Int) ≤ (k : Int) := by omega
      obtain ⟨ga, off, ha, _, hcell⟩ := (HS6.out.kept hkw.out (fun _ _ h => h)).at (k := k) (by have := HM.out; omega)
      subst ha
      have hpz := HPZ.out (ps.getD k ⟨#[]⟩) (by rw [List.getD_eq_getElem?_getD, List.getElem?_eq_getElem (by have := HM.out; omega)]; exact List.getElem_mem _)
      generalize ps.getD k ⟨#[]⟩ = p at hcell hpz
      have HTr := Lib.hid (HT6.out.on hkw.out (Nat.le_refl _))
      have HHA := has_any wr g mv ts p HTr.out.tree (by omega)
      rw [HT6.out.both.has p] at HHA
      have HRH := rhas_any _ want p wr HTr.out.row
      generalize memS p want = V at HHA HRH
      have hvv : (V != V) = false := by simp
      have HHA := Lib.hid HHA; have HRH := Lib.hid HRH
      have HCH := Lib.hid (fun W (hk : Kept (fun _ => False) wr W) => children_any W g mv ts p (HTr.out.tree.stay hk) HPA.out (by have := HLN.out; omega))
      have HRC := Lib.hid (fun W (hk : Kept (fun _ => False) wr W) => rchildren_any _ want p W (HTr.out.row.kept hk (fun _ _ h => h)) (by have := HLE.out; omega) HT6.out.small hpz)
      have HBL := Lib.hid (fun W (hk : Kept (fun _ => False) wr W) => below_list W g mv ts want p (HTr.out.tree.stay hk) HT6.out.both (by have := HLN.out; omega) (by omega))
      have HRB := Lib.hid (fun W (hk : Kept (fun _ => False) wr W) => rbelow_any _ want p W (HTr.out.row.kept hk (fun _ _ h => h)) (by have := HLE.out; omega) HT6.out.small)
      clear hpz
      go_wp2_with fail
      refine HHA.out.mono ?_
      rintro e w7 ⟨rfl, rfl⟩
      go_wp2_with fail
      refine HRH.out.mono ?_
      rintro e w7 ⟨rfl, rfl⟩
      go_wp2_with fail
      refine (HCH.out _ (Kept.refl _ _)).mono ?_
      rintro e w8 ⟨v8, r8, rfl, hr8⟩
      have hre := HT6.out.both.child_list hr8.sorted hr8.mem
      have hrow8 := hr8.row
      rw [hre] at hrow8
      have HR8 := Lib.hid hrow8
      have K8 := Lib.hid hr8.kept
      clear hre hrow8 hr8
      go_wp2_with fail
      refine (HRC.out _ K8.out).mono ?_
      rintro e w9 ⟨v9, rfl, hs9, k9⟩
      have heq := sequal_any v8 v9 _ _ w9 (HR8.out.kept k9 (fun _ _ h => h)) hs9
      rw [show decide (childS want p = childS want p) = true by simp] at heq
      have HEQ := Lib.hid heq
      have K9 := Lib.hid (K8.out.then k9)
      clear hs9 k9 heq
      go_wp2_with fail
      refine HEQ.out.mono ?_
      rintro e w10 ⟨rfl, q10, rfl⟩
      have K10 := Lib.hid (K9.out.then ((Kept.refl (fun _ => False) w9).drewN q10))
      generalize w9.drewN q10 = w10 at K10 ⊢
      clear HEQ
      go_wp2_with fail
      refine (HBL.out _ K10.out).mono ?_
      rintro e w11 ⟨v11, rfl, hs11, k11⟩
      have HS11 := Lib.hid hs11
      have K11 := Lib.hid (K10.out.then k11)
      clear hs11 k11
      go_wp2_with fail
      refine (HRB.out _ K11.out).mono ?_
      rintro e w12 ⟨v12, rfl, ho12, k12⟩
      have heq := sequal_any v11 v12 _ _ w12 (HS11.out.kept k12 (fun _ _ h => h)) (Strs.ofOwn ho12)
      rw [show decide (belowS want p = belowS want p) = true by simp] at heq
      have HEQ := Lib.hid heq
      have K12 := Lib.hid (K11.out.then k12)
      clear ho12 k12 heq
      go_wp2_with fail
      refine HEQ.out.mono ?_
      rintro e w13 ⟨rfl, q13, rfl⟩
      have K13 := Lib.hid (hkw.out.then (K12.out.then ((Kept.refl (fun _ => False) w12).drewN q13)))
      generalize w12.drewN q13 = w13 at K13 ⊢
      clear HEQ
      go_wp2_with fail
      go_roundw
      case rel => first | exact ⟨k + 1, by omega, by go_num, K13⟩ | ((repeat apply Exists.intro); exact ⟨⟨k + 1, by omega, by go_num, K13⟩, rfl⟩)
      case measure => simp [intOf]; omega
    · obtain rfl : k = M := by omega
      have KF := Lib.hid ((K1.out.then HT6.out.kept).then hkw.out)
      go_wp2_with fail
      go_ret
      exact ⟨rfl, KF.out⟩
end Go.Proofs.YtndedphkgkmckaaDoor
/-
  A string that came in, with its length.
-/
namespace Go.Proofs.YtndedphkgkmckaaDoor
open Go.ChangeShapes Go.WideShapes Go.ChangeAt Go.RowKit Go.Joins Go.ChangeMaps

set_option linter.constructorNameAsVariable false
set_option maxRecDepth 100000 in
theorem str_in2 {H : Type} {enc : TypeId × Value → H} {W : World} {base : Nat} {v : Value} {d : DataW H} {p : List MemPlace} (o : Value.okWide Tryd.prog W .any base 9 v) (h : DataW.Trod enc Tryd.prog W 0 (fun _ => true) true 9 v d p) : ∃ s : ByteArray, v = .string s ∧ s.size ≤ 9223372036854775807 := by
  obtain ⟨s, h1, _, _, h4⟩ := open_string Tryd.underlying9 o h
  exact ⟨s, h1, by unfold maxLen at h4; omega⟩
end Go.Proofs.YtndedphkgkmckaaDoor
