/-
  Paths: Common of both.
-/
import Derived.Test.YtndedphkgkmckaaDoorPaX
namespace Go.Proofs.YtndedphkgkmckaaDoor
open Go.RowKit
set_option linter.unusedSimpArgs false
set_option linter.unusedVariables false

theorem path_size {s : ByteArray} {l : List ByteArray} (h : namesS s = some l) : s.size ≤ 10000 := by
  obtain ⟨h1, h2, h3⟩ := pathS_names h
  have hx : ∀ x ∈ l, x.size ≤ 1000 := fun x hx => by
    have := nameL_len (List.all_eq_true.1 h2 x hx)
    have e : x.size = x.data.toList.length := rfl
    omega
  have hs : s.size = s.data.toList.length := rfl
  rw [hs, h1]
  by_cases h0 : l = []
  · subst h0; decide
  · rw [path_data l h0]
    have := pathL_small l hx
    omega
theorem comS_comm : ∀ a b : List ByteArray, comS a b = comS b a
  | [], [] => rfl
  | [], y :: b => rfl
  | x :: a, [] => rfl
  | x :: a, y :: b => by
    unfold comS
    by_cases e : x = y
    · rw [if_pos e, if_pos e.symm, comS_comm a b]
    · rw [if_neg e, if_neg (Ne.symm e)]
theorem comS_take : ∀ (k : Nat) (a b : List ByteArray), comS (a.take k) b = min k (comS a b)
  | 0, a, b => by simp [comS]
  | k + 1, [], b => by simp [comS]
  | k + 1, x :: a, [] => by simp [comS]
  | k + 1, x :: a, y :: b => by
    rw [List.take_succ_cons]
    unfold comS
    by_cases e : x = y
    · rw [if_pos e, if_pos e, comS_take k a b]; omega
    · rw [if_neg e, if_neg e]; omega

/-- The longest path that both lie within. -/
def commonS (p q : ByteArray) : Option ByteArray := match namesS p, namesS q with
  | some a, some b => some (pathS (a.take (comS a b)))
  | _, _ => none

theorem names_take {p : ByteArray} {xs : List ByteArray} (h : namesS p = some xs) (k : Nat) : namesS (pathS (xs.take k)) = some (xs.take k) := by
  obtain ⟨_, h2, h3⟩ := pathS_names h
  refine namesS_path ?_ (by rw [List.length_take]; omega)
  rw [List.all_eq_true] at h2 ⊢
  exact fun x hx => h2 x (List.mem_of_mem_take hx)
theorem within_take {p q : ByteArray} {xs ys : List ByteArray} (hp : namesS p = some xs) (hq : namesS q = some ys) (k : Nat) (hk : k ≤ xs.length) : withinS q (pathS (xs.take k)) = decide (k ≤ comS xs ys) := by
  unfold withinS
  rw [hq, names_take hp k]
  show decide (comS ys (xs.take k) = (xs.take k).length) = _
  rw [comS_comm, comS_take, List.length_take, Bool.eq_iff_iff, decide_eq_true_iff, decide_eq_true_iff]
  omega
theorem parent_take {p : ByteArray} {xs : List ByteArray} (hp : namesS p = some xs) (k : Nat) (h0 : 0 < k) (hk : k ≤ xs.length) : parentS (pathS (xs.take k)) = some (pathS (xs.take (k - 1))) := by
  have hn := names_take hp k
  unfold parentS
  rw [hn]
  cases e : xs.take k with
  | nil => have := congrArg List.length e; rw [List.length_take, List.length_nil] at this; omega
  | cons x t =>
    show some (pathS (x :: t).dropLast) = _
    rw [← e, List.dropLast_eq_take, List.length_take, List.take_take]
    congr 3
    omega

theorem take_size {p : ByteArray} {xs : List ByteArray} (hp : namesS p = some xs) (k : Nat) (hk : k < xs.length) : (pathS (xs.take k)).size < (pathS (xs.take (k + 1))).size := by
  have e : xs.take (k + 1) = xs.take k ++ [xs[k]] := by rw [List.take_add_one, List.getElem?_eq_getElem hk]; rfl
  obtain ⟨_, h2, _⟩ := pathS_names hp
  have hx := nameL_ne (List.all_eq_true.1 h2 xs[k] (List.getElem_mem hk))
  have hxl : 1 ≤ (xs[k]).data.toList.length := List.length_pos_iff.2 hx
  have h1 : (pathS (xs.take (k + 1))).size = ((xs.take k).flatMap fun y => 47 :: y.data.toList).length + 1 + (xs[k]).data.toList.length := by
    show (pathS (xs.take (k + 1))).data.toList.length = _
    rw [e, path_last, List.length_append, List.length_cons]; omega
  rw [h1]
  by_cases h0 : xs.take k = []
  · rw [h0]
    show (pathS []).size < _
    have : (pathS []).size = 1 := rfl
    rw [this]; omega
  · show (pathS (xs.take k)).data.toList.length < _
    rw [path_data _ h0]; omega
def strSz : Value → Nat
  | .string s => s.size
  | _ => 0

set_option maxRecDepth 100000 in
set_option maxHeartbeats 3200000 in
theorem common_any (p q : ByteArray) (hp : p.size ≤ 1000000) (hq : q.size ≤ 1000000) (w : World) :
    Calls Tryd.prog 32 #[.string p, .string q] w fun e w' => e = .returned (.tuple #[.string ((commonS p q).getD ⟨#[]⟩), .bool (commonS p q).isSome]) ∧ Kept (fun _ => False) w w' := by
  have HCP := Lib.hid (pvalid_any p hp)
  have HCQ := Lib.hid (pvalid_any q hq)
  cases hP : namesS p with
  | none =>
    rw [show commonS p q = none by unfold commonS; rw [hP]]
    rw [hP] at HCP
    clear hP
    go_enter Tryd.func32, Tryd.ntmps32
    go_wp2_with fail
    refine (HCP.out _).mono ?_
    rintro e w1 ⟨rfl, hk1⟩
    have HK1 := Lib.hid hk1
    clear hk1
    go_wp2_with fail
    go_ret2
    exact ⟨rfl, HK1.out⟩
  | some xs =>
    cases hQ : namesS q with
    | none =>
      rw [show commonS p q = none by unfold commonS; rw [hP, hQ]]
      rw [hP] at HCP
      rw [hQ] at HCQ
      clear hP hQ
      go_enter Tryd.func32, Tryd.ntmps32
      go_wp2_with fail
      refine (HCP.out _).mono ?_
      rintro e w1 ⟨rfl, hk1⟩
      have HK1 := Lib.hid hk1
      clear hk1
      go_wp2_with fail
      refine (HCQ.out _).mono ?_
      rintro e w2 ⟨rfl, hk2⟩
      have HK2 := Lib.hid hk2
      clear hk2
      go_wp2_with fail
      go_ret2
      exact ⟨rfl, HK1.out.then HK2.out⟩
    | some ys =>
      rw [show commonS p q = some (pathS (xs.take (comS xs ys))) by unfold commonS; rw [hP, hQ]]
      have hP1 := hP; have hQ1 := hQ
      rw [hP] at HCP
      rw [hQ] at HCQ
      have hp0 : p = pathS (xs.take xs.length) := by rw [List.take_length]; exact (pathS_names hP).1
      obtain ⟨c, hc⟩ : ∃ c, c = comS xs ys := ⟨_, rfl⟩
      have hcl : c ≤ xs.length := by rw [hc]; exact (comS_le xs ys).1
      have HW : Hid (∀ k, k ≤ xs.length → ∀ W, Calls Tryd.prog 27 #[.string q, .string (pathS (xs.take k))] W fun e w' => e = .returned (.bool (decide (k ≤ c))) ∧ Kept (fun _ => False) W w') := fun k hk W => by
        have := within_any q (pathS (xs.take k)) hq (by have := path_size (names_take hP k); omega) W
        rw [within_take hP hQ k hk, ← hc] at this
        exact this
      have HPa : Hid (∀ k, 0 < k → k ≤ xs.length → ∀ W, Calls Tryd.prog 23 #[.string (pathS (xs.take k))] W fun e w' => e = .returned (.tuple #[.string (pathS (xs.take (k - 1))), .bool true]) ∧ Kept (fun _ => False) W w') := fun k h0 hk W => by
        have := parent_any (pathS (xs.take k)) (by have := path_size (names_take hP k); omega) W
        rw [parent_take hP k h0 hk] at this
        exact this
      rw [← hc]
      show Calls _ _ _ _ fun e w' => e = .returned (.tuple #[.string (pathS (xs.take c)), .bool true]) ∧ _
      obtain ⟨n, hn⟩ : ∃ n, n = xs.length := ⟨_, rfl⟩
      rw [← hn] at hp0 hcl HW HPa
      have HT : Hid (∀ k, k < n → (pathS (xs.take k)).size < (pathS (xs.take (k + 1))).size) := fun k hk => take_size hP1 k (by rw [hn] at hk; exact hk)
      generalize hT : (fun k => pathS (xs.take k)) = T
      have hTk : ∀ k, pathS (xs.take k) = T k := fun k => by rw [← hT]
      rw [hTk] at hp0 ⊢
      simp only [hTk] at HW HPa HT
      clear hP hQ hP1 hQ1 hc hn hT hTk hp hq
      subst hp0
      go_enter Tryd.func32, Tryd.ntmps32
      go_wp2_with fail
      refine (HCP.out _).mono ?_
      rintro e w1 ⟨rfl, hk1⟩
      have HK1 := Lib.hid hk1
      clear hk1
      go_wp2_with fail
      refine (HCQ.out _).mono ?_
      rintro e w2 ⟨rfl, hk2⟩
      have HK2 := Lib.hid (HK1.out.then hk2)
      clear hk2
      go_wp2_with fail
      go_loopw [0] (fun pv wr => ∃ k : Nat, c ≤ k ∧ k ≤ n ∧ pv = .string (T k) ∧ Hid (Kept (fun _ => False) w wr)) (fun pv _ => strSz pv)
      case atStart => exact ⟨n, hcl, Nat.le_refl _, rfl, HK2⟩
      case round =>
        obtain ⟨k, hck, hkn, rfl, hkw⟩ := hrel
        have HWk := Lib.hid (HW.out k hkn)
        by_cases hlt : k ≤ c
        · obtain rfl : k = c := by omega
          rw [show decide (k ≤ k) = true by simp] at HWk
          go_wp2_with fail
          refine (HWk.out _).mono ?_
          rintro e w3 ⟨rfl, hk3⟩
          have HK3 := Lib.hid (hkw.out.then hk3)
          clear hk3
          go_wp2_with fail
          go_ret2
          exact ⟨rfl, HK3.out⟩
        · rw [show decide (k ≤ c) = false by simp; omega] at HWk
          have HPk := Lib.hid (HPa.out k (by omega) hkn)
          have HSk := Lib.hid (HT.out (k - 1) (by omega))
          have ek : k - 1 + 1 = k := by omega
          rw [ek] at HSk
          go_wp2_with fail
          refine (HWk.out _).mono ?_
          rintro e w3 ⟨rfl, hk3⟩
          have HK3 := Lib.hid (hkw.out.then hk3)
          clear hk3
          go_wp2_with fail
          refine (HPk.out _).mono ?_
          rintro e w4 ⟨rfl, hk4⟩
          have HK4 := Lib.hid (HK3.out.then hk4)
          clear hk4
          go_wp2_with fail
          go_roundw
          case rel => exact ⟨k - 1, by omega, by omega, rfl, HK4⟩
          case measure => exact HSk.out
end Go.Proofs.YtndedphkgkmckaaDoor
