/-
  Ancestors: path's and the reference's.
-/
import Derived.Test.YtndedphkgkmckaaDoorPaRv
import Derived.Test.YtndedphkgkmckaaDoorPaLs
namespace Go.Proofs.YtndedphkgkmckaaDoor
open Go.RowKit
set_option linter.unusedSimpArgs false
set_option linter.unusedVariables false

/-- The paths above a text. -/
def ancS (p : ByteArray) : List ByteArray := match namesS p with
  | some xs => (List.range xs.length).map fun k => pathS (xs.take k)
  | none => []
/-- The k nearest of n, the nearest first. -/
def backL (T : Nat → ByteArray) (n k : Nat) : List ByteArray := (List.range k).map fun j => T (n - 1 - j)
theorem backL_length (T : Nat → ByteArray) (n k : Nat) : (backL T n k).length = k := by simp [backL]
theorem backL_succ (T : Nat → ByteArray) (n k : Nat) : backL T n (k + 1) = backL T n k ++ [T (n - 1 - k)] := by simp [backL, List.range_succ]
theorem backL_rev (T : Nat → ByteArray) (n : Nat) : (backL T n n).reverse = (List.range n).map T := by
  apply List.ext_getElem
  · simp [backL]
  · intro i h1 h2
    simp [backL] at h1 h2 ⊢
    congr 1
    omega

set_option maxRecDepth 100000 in
set_option maxHeartbeats 3200000 in
theorem qanc_any (p : ByteArray) (hs : p.size ≤ 100000) (w : World) :
    Calls Tryd.prog 60 #[.string p] w fun e w' => ∃ v, e = .returned v ∧ Strs w' v (ancS p) ∧ Kept (fun _ => False) w w' := by
  have HCP := Lib.hid (rsplit_any p hs)
  have HV := Lib.hid (qvalid_any p hs)
  cases hn : namesS p with
  | none =>
    have e : ancS p = [] := by unfold ancS; rw [hn]
    rw [e]
    rw [hn] at HCP HV
    clear hn e hs
    go_enter Tryd.func60, Tryd.ntmps60
    go_wp2_with fail
    refine (HCP.out _).mono ?_
    rintro e w1 ⟨v1, rfl, hr1⟩
    obtain ⟨zs, hrow, hzl, _⟩ := hr1.row
    obtain ⟨a1, c1, rfl, _, _⟩ := hrow.form
    obtain ⟨m, hm⟩ : ∃ m, m = zs.length := ⟨_, rfl⟩
    rw [← hm]
    have HK1 := Lib.hid hr1.kept
    clear hr1 hrow hzl hm
    go_wp2_with fail
    go_loopw [5, 6] (fun lv iv wr => lv = .slice none 0 0 ∧ iv = .int .i64 0 ∧ Hid (Kept (fun _ => False) w wr)) (fun _ _ _ => 0)
    case atStart => exact ⟨rfl, rfl, HK1.out⟩
    case round =>
      obtain ⟨rfl, rfl, hkw⟩ := hrel
      by_cases h0 : m = 0
      · have e1 : ¬ (0 : Int) < (m : Int) := by omega
        clear h0
        go_wp2_with fail
        go_ret
        exact ⟨_, rfl, Or.inl ⟨rfl, rfl⟩, hkw.out⟩
      · have e1 : (0 : Int) < (m : Int) := by omega
        clear h0
        go_wp2_with fail
        refine (HV.out _).mono ?_
        rintro e w2 ⟨rfl, k2⟩
        have HK2 := Lib.hid (hkw.out.then k2)
        clear k2
        go_wp2_with fail
        go_ret
        exact ⟨_, rfl, Or.inl ⟨rfl, rfl⟩, HK2.out⟩
  | some xs =>
    have hx8 : xs.length ≤ 8 := (pathS_names hn).2.2
    have e : ancS p = (List.range xs.length).map fun k => pathS (xs.take k) := by unfold ancS; rw [hn]
    rw [e]
    have HZ := Lib.hid (fun x hx => names_size (x := x) hn hx)
    have HN := Lib.hid hn
    rw [hn] at HCP HV
    obtain ⟨T, hT⟩ : ∃ T : Nat → ByteArray, T = fun k => pathS (xs.take k) := ⟨_, rfl⟩
    rw [← hT]
    have HT : Hid (∀ k, pathS (xs.take k) = T k) := fun k => by rw [hT]
    obtain ⟨n, hnl⟩ : ∃ n, n = xs.length := ⟨_, rfl⟩
    rw [← hnl] at hx8 ⊢
    have HNL := Lib.hid hnl
    clear hn e hs hT hnl
    go_enter Tryd.func60, Tryd.ntmps60
    go_wp2_with fail
    refine (HCP.out _).mono ?_
    rintro e w1 ⟨v1, rfl, hr1⟩
    have hrow1 : Strs w1 v1 xs := by
      obtain ⟨zs, h1, _, h2⟩ := hr1.row
      obtain rfl := h2 xs HN.out
      exact h1
    obtain ⟨a1, c1, rfl, hnc, hcm⟩ := hrow1.form
    have HK1 := Lib.hid hr1.kept
    have HR1 := Lib.hid hrow1
    rw [← HNL.out] at HR1 hnc ⊢
    have HROW : Hid (∀ W, Kept (fun _ => False) w1 W → Strs W (.slice a1 n c1) xs) := fun W hk => HR1.out.kept hk (fun _ _ h => h)
    unfold maxLen at hcm
    clear hr1 hrow1 HR1
    go_wp2_with fail
    go_loopw [5, 6] (fun lv iv wr => ∃ (k : Nat) (aa : Option Addr) (c : Nat), k ≤ n ∧ lv = .slice aa k c ∧ iv = .int .i64 k ∧ Hid (OwnS wr w1.heap.size (.slice aa k c) ((List.range k).map T)) ∧ Hid (Kept (fun _ => False) w1 wr)) (fun _ iv _ => n - (intOf iv).toNat)
    case atStart => exact ⟨0, none, 0, by omega, rfl, rfl, OwnS.nil _ _, Kept.refl _ _⟩
    case round =>
      obtain ⟨k, aa, c, hk, rfl, rfl, ho, hkw⟩ := hrel
      by_cases h0 : k = n
      · have e1 : ¬ (k : Int) < (n : Int) := by omega
        subst h0
        clear hk
        go_wp2_with fail
        go_ret
        exact ⟨_, rfl, by have := Strs.ofOwn (xs := (List.range k).map T) (by simpa using ho.out); simpa using this, HK1.out.then hkw.out⟩
      · have e1 : (k : Int) < (n : Int) := by omega
        have hkn : k < n := by omega
        have l0 : (0 : Int) ≤ (k : Int) := by omega
        have l1 : (k : Int) ≤ (c1 : Int) := by omega
        clear h0
        go_wp2_with fail
        refine (HV.out _).mono ?_
        rintro e w2 ⟨rfl, k2⟩
        have HK2 := Lib.hid (hkw.out.then k2)
        have HO2 := Lib.hid (ho.out.kept k2 (fun _ _ h => h))
        clear k2 ho
        go_wp2_with fail
        have hq := qof_any (.slice a1 k c1) (xs.take k) w2 ((HROW.out _ HK2.out).take k (by have := HNL.out; omega)) (by rw [List.length_take]; omega) (fun x hx => by have := HZ.out x (List.mem_of_mem_take hx); omega)
        rw [HT.out] at hq
        refine hq.mono ?_
        rintro e w3 ⟨rfl, rfl⟩
        obtain ⟨x, hx⟩ : ∃ x, x = T k := ⟨_, rfl⟩
        rw [← hx]
        have HX := Lib.hid hx
        have HSZ := Lib.hid HK2.out.size
        clear hq hx
        generalize hbk : (List.range k).map T = acc at HO2
        have hal : acc.length = k := by rw [← hbk]; simp
        have HAL := Lib.hid hal
        have HBK := Lib.hid hbk
        clear hal hbk
        go_wp2_with (at_builtin; refine wpList_pushS (by rfl) _ _ rfl rfl w1.heap.size _ acc w2.heap.size x rfl rfl (HO2.out.alloc _) (by go_simp) (by have := HAL.out; omega) (by have := HSZ.out; simp; omega) ?_)
        intro a' c' w4 hown hk4
        have hrow : OwnS w4 w1.heap.size (.slice a' (k + 1) c') ((List.range (k + 1)).map T) := by
          have h2 := hown
          rw [HAL.out, ← HBK.out, HX.out] at h2
          rw [List.range_succ, List.map_append]
          exact h2
        have HR4 := Lib.hid hrow
        have HK4 : Hid (Kept (fun _ => False) w1 w4) := (HK2.out.then (Kept.alloc _ _ _)).trans hk4 (fun _ _ h => h) (fun i hi e => by have := (HO2.out.bound i e).1; omega)
        have hl := HAL.out
        clear hown hk4 hrow
        go_wp2_with fail
        go_roundw
        case rel => first | exact ⟨k + 1, a', c', by omega, by rw [hl], by go_num, HR4, HK4⟩ | ((repeat apply Exists.intro); exact ⟨⟨k + 1, a', c', by omega, by rw [hl], by go_num, HR4, HK4⟩, rfl⟩)
        case measure => simp [intOf]; omega
end Go.Proofs.YtndedphkgkmckaaDoor
