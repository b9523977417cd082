/-
  Ancestors: path's and the reference's.
-/
import Derived.Test.YtnnakllgfaaejaaGreatDoorPaRv
import Derived.Test.YtnnakllgfaaejaaGreatDoorPaLs
namespace Go.Proofs.YtnnakllgfaaejaaGreatDoor
open Go.RowKit
set_option linter.unusedSimpArgs false
set_option linter.unusedVariables false

/-- The paths above a text. -/
def ancS (p : ByteArray) : List ByteArray := match namesS p with
  | some xs => (List.range xs.length).map fun k => pathS (xs.take k)
  | none => []
/-- The k nearest of n, the nearest first. -/
def backL (T : Nat → ByteArray) (n k : Nat) : List ByteArray := (List.range k).map fun j => T (n - 1 - j)
theorem backL_length (T : Nat → ByteArray) (n k : Nat) : (backL T n k).length = k := by simp [backL]
theorem backL_succ (T : Nat → ByteArray) (n k : Nat) : backL T n (k + 1) = backL T n k ++ [T (n - 1 - k)] := by simp [backL, List.range_succ]
theorem backL_rev (T : Nat → ByteArray) (n : Nat) : (backL T n n).reverse = (List.range n).map T := by
  apply List.ext_getElem
  · simp [backL]
  · intro i h1 h2
    simp [backL] at h1 h2 ⊢
    congr 1
    omega

set_option maxRecDepth 100000 in
set_option maxHeartbeats 3200000 in
theorem panc_at (p : ByteArray) (n : Nat) (T U : Nat → ByteArray) (B : Nat → Bool) (hn : n ≤ 1000) (hU : ∀ k, 0 < k → U k = T (k - 1)) (hB : ∀ k, B k = decide (0 < k))
    (hp : ∀ W, Calls Tryz.prog 53 #[.string p] W fun e w' => e = .returned (.tuple #[.string (U n), .bool (B n)]) ∧ Kept (fun _ => False) W w')
    (hT : ∀ k, k < n → ∀ W, Calls Tryz.prog 53 #[.string (T k)] W fun e w' => e = .returned (.tuple #[.string (U k), .bool (B k)]) ∧ Kept (fun _ => False) W w') (w : World) :
    Calls Tryz.prog 40 #[.string p] w fun e w' => ∃ v, e = .returned v ∧ Strs w' v ((List.range n).map T) ∧ Kept (fun _ => False) w w' := by
  have HP := Lib.hid hp; have HT := Lib.hid hT
  have HU := Lib.hid hU; have HB := Lib.hid hB
  clear hp hT hU hB
  go_enter Tryz.func40, Tryz.ntmps40
  go_wp2_with fail
  refine (HP.out _).mono ?_
  rintro e w1 ⟨rfl, k1⟩
  have K1 := Lib.hid k1; clear k1
  go_wp2_with fail
  go_loopw [3, 4, 5] (fun lv uv bv wr => ∃ (k : Nat) (a : Option Addr) (c : Nat), k ≤ n ∧ lv = .slice a (n - k) c ∧ uv = .string (U k) ∧ bv = .bool (B k) ∧ Hid (k = k ∧ OwnS wr w.heap.size (.slice a (n - k) c) (backL T n (n - k))) ∧ Hid (Kept (fun _ => False) w wr)) (fun lv _ _ _ => n - (match lv with | .slice _ m _ => m | _ => 0))
  case atStart => exact ⟨n, none, 0, Nat.le_refl _, by simp, rfl, rfl, ⟨rfl, by simpa [backL] using OwnS.nil _ _⟩, K1.out⟩
  case round =>
    obtain ⟨k, aa, c, hk, rfl, rfl, rfl, ho, hkw⟩ := hrel
    by_cases h0 : k = 0
    · subst h0
      have HO : Hid (OwnS wr w.heap.size (.slice aa n c) (backL T n n)) := ho.out.2
      have e0 : n - 0 = n := by omega
      have e1 : B 0 = false := by rw [HB.out]; rfl
      rw [e0, e1]
      clear ho hk
      go_wp2_with fail
      rcases aa with _ | ⟨g, off, r⟩
      · obtain rfl : n = 0 := by
          rcases HO.out.own.2 with ⟨e, h⟩ | ⟨g', cap, cur, e, _⟩
          · cases e; rfl
          · cases e
        refine (reverse_none none _ _).mono ?_
        rintro e w2 ⟨rfl, rfl⟩
        go_wp2_with fail
        go_ret
        exact ⟨_, rfl, Strs.ofOwn (xs := []) (by simpa [backL] using HO.out), hkw.out⟩
      · obtain ⟨rfl, rfl⟩ : off = 0 ∧ r = none := by
          rcases HO.out.own.2 with ⟨e, h⟩ | ⟨g', cap, cur, e, _⟩
          · cases e
          · simp only [Value.slice.injEq, Option.some.injEq, Addr.mk.injEq] at e
            exact ⟨e.1.2.1, e.1.2.2⟩
        have hb := (HO.out.bound g rfl)
        have hbl := backL_length T n n
        have hr := reverse_some wr w.heap.size g c (backL T n n) (by rw [hbl]; exact HO.out)
        rw [hbl, backL_rev] at hr
        refine hr.mono ?_
        rintro e w2 ⟨rfl, hs2, hk2⟩
        have HS2 := Lib.hid hs2
        have HK2 : Hid (Kept (fun _ => False) w w2) := hkw.out.trans hk2 (fun _ _ h => h) (fun i hi e => by have := hb.1; omega)
        clear hs2 hk2 hr hb hbl
        go_wp2_with fail
        go_ret
        exact ⟨_, rfl, HS2.out, HK2.out⟩
    · have hkp : 0 < k := by omega
      have e1 : B k = true := by rw [HB.out]; simp [hkp]
      have hTk := HT.out (k - 1) (by omega)
      have e2 : U k = T (k - 1) := HU.out k hkp
      obtain ⟨m, hm⟩ : ∃ m, m = n - k := ⟨_, rfl⟩
      have hsucc := backL_succ T n (n - k)
      rw [show n - 1 - (n - k) = k - 1 by omega] at hsucc
      have HO := Lib.hid ho.out.2
      have HS := Lib.hid hsucc
      rw [e1, e2]
      obtain ⟨x, hx⟩ : ∃ x, x = T (k - 1) := ⟨_, rfl⟩
      rw [← hx] at HS hTk ⊢
      have HTK := Lib.hid hTk
      have HX := Lib.hid hx
      rw [← hm] at HO HS ⊢
      have HM := Lib.hid hm
      have hmb : m ≤ 1000 := by omega
      have HH0 := Lib.hid h0
      have HSZ := Lib.hid hkw.out.size
      clear ho hsucc hTk e1 e2 hx hm h0
      generalize hbk : backL T n m = acc at HO HS
      have hal : acc.length = m := by rw [← hbk]; exact backL_length T n m
      have HAL := Lib.hid hal
      have HBK := Lib.hid hbk
      clear hal hbk
      go_wp2_with (at_builtin; refine wpList_pushS (by rfl) _ _ rfl rfl w.heap.size _ acc wr.heap.size x rfl rfl (HO.out.alloc _) (by go_simp) (by have := HAL.out; omega) (by have := HSZ.out; simp; omega) ?_)
      intro a' c' w3 hown hk3
      have hlen : acc.length + 1 = n - (k - 1) := by have := HAL.out; have := HM.out; have := HH0.out; omega
      have hrow : OwnS w3 w.heap.size (.slice a' (n - (k - 1)) c') (backL T n (n - (k - 1))) := by
        have h2 := hown
        rw [show acc ++ [x] = backL T n (n - (k - 1)) by rw [← HS.out]; congr 1; have := HAL.out; have := HM.out; omega] at h2
        rw [hlen] at h2
        exact h2
      have HR := Lib.hid hrow
      have HK3 : Hid (Kept (fun _ => False) w w3) := (hkw.out.then (Kept.alloc _ _ _)).trans hk3 (fun _ _ h => h) (fun i hi e => by have := (HO.out.bound i e).1; omega)
      have HL := Lib.hid hlen
      clear hown hk3 hrow hlen
      go_wp2_with fail
      refine (HTK.out _).mono ?_
      rintro e w4 ⟨rfl, k4⟩
      have HR4 : Hid (k - 1 = k - 1 ∧ OwnS w4 w.heap.size (.slice a' (n - (k - 1)) c') (backL T n (n - (k - 1)))) := ⟨rfl, HR.out.kept k4 (fun _ _ h => h)⟩
      have HK4 := Lib.hid (HK3.out.then k4)
      clear k4
      go_wp2_with fail
      go_roundw
      case rel => first | exact ⟨k - 1, a', c', by omega, by rw [HL.out], rfl, rfl, HR4, HK4⟩ | ((repeat apply Exists.intro); exact ⟨⟨k - 1, a', c', by omega, by rw [HL.out], rfl, rfl, HR4, HK4⟩, rfl⟩)
      case measure => simp; have := HL.out; have := HM.out; have := HAL.out; have := HH0.out; omega

theorem panc_any (p : ByteArray) (hs : p.size ≤ 100000) (w : World) :
    Calls Tryz.prog 40 #[.string p] w fun e w' => ∃ v, e = .returned v ∧ Strs w' v (ancS p) ∧ Kept (fun _ => False) w w' := by
  cases hn : namesS p with
  | none =>
    have hpar : parentS p = none := by unfold parentS; rw [hn]
    have h := panc_at p 0 (fun _ => ⟨#[]⟩) (fun _ => ⟨#[]⟩) (fun k => decide (0 < k)) (by omega) (fun _ _ => rfl) (fun _ => rfl) (fun W => by
      have := parent_any p (by omega) W
      rw [hpar] at this
      exact this) (fun k hk => by omega) w
    have e : ancS p = [] := by unfold ancS; rw [hn]
    rw [e]
    exact h
  | some xs =>
    have hx8 : xs.length ≤ 8 := (pathS_names hn).2.2
    have hp0 : p = pathS (xs.take xs.length) := by rw [List.take_length]; exact (pathS_names hn).1
    have hP : ∀ k, k ≤ xs.length → ∀ W, Calls Tryz.prog 53 #[.string (pathS (xs.take k))] W fun e w' => e = .returned (.tuple #[.string (if k = 0 then ⟨#[]⟩ else pathS (xs.take (k - 1))), .bool (decide (0 < k))]) ∧ Kept (fun _ => False) W w' := fun k hk W => by
      have := parent_any (pathS (xs.take k)) (by have := path_size (names_take hn k); omega) W
      by_cases h0 : k = 0
      · subst h0
        have hr : parentS (pathS (xs.take 0)) = none := by unfold parentS; rw [names_take hn 0]; rfl
        rw [hr] at this
        exact this
      · rw [parent_take hn k (by omega) hk] at this
        rw [if_neg h0, show decide (0 < k) = true by simp; omega]
        exact this
    have h := panc_at p xs.length (fun k => pathS (xs.take k)) (fun k => if k = 0 then ⟨#[]⟩ else pathS (xs.take (k - 1))) (fun k => decide (0 < k)) (by omega) (fun k hk => if_neg (by omega)) (fun _ => rfl) (fun W => by have := hP xs.length (Nat.le_refl _) W; rw [← hp0] at this; exact this) (fun k hk => hP k (by omega)) w
    have e : ancS p = (List.range xs.length).map fun k => pathS (xs.take k) := by unfold ancS; rw [hn]
    rw [e]
    exact h

end Go.Proofs.YtnnakllgfaaejaaGreatDoor
