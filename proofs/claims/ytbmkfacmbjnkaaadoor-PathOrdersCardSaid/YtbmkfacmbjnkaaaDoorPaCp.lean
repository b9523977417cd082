/-
  arbaclaw07.PathCompares: the walk of the law.
-/
import Derived.Test.YtbmkfacmbjnkaaaDoorPaAk
import Derived.Test.YtbmkfacmbjnkaaaDoorPaLs
import Derived.Test.YtbmkfacmbjnkaaaDoorPaQ
namespace Go.Proofs.YtbmkfacmbjnkaaaDoor
open Go.RowKit Go.Maps Go.WideMaps Go.ChangeMaps
set_option linter.unusedSimpArgs false
set_option linter.unusedVariables false

theorem cmpN_vals : ∀ a b : List ByteArray, cmpN a b = -1 ∨ cmpN a b = 0 ∨ cmpN a b = 1
  | [], [] => by simp [cmpN]
  | [], _ :: _ => by simp [cmpN]
  | _ :: _, [] => by simp [cmpN]
  | x :: a, y :: b => by
    unfold cmpN
    split
    · exact cmpN_vals a b
    · exact cb_vals _ _
theorem compareT_vals (p q : ByteArray) : compareS p q = -1 ∨ compareS p q = 0 ∨ compareS p q = 1 := by
  unfold compareS
  cases namesS p <;> cases namesS q
  · exact cb_vals _ _
  · simp
  · simp
  · exact cmpN_vals _ _
theorem compareT_swap (p q : ByteArray) : compareS q p = - compareS p q := by
  unfold compareS
  cases namesS p <;> cases namesS q
  · exact cmpB_swap _ _
  · rfl
  · rfl
  · exact cmpN_swap _ _

set_option maxRecDepth 100000 in
set_option maxHeartbeats 3200000 in
theorem compares_law (s t : ByteArray) (hs : s.size ≤ maxLen) (ht : t.size ≤ maxLen) (w : World) :
    Calls Tryd.prog 6 #[.string s, .string t] w fun e w' => e = .returned (.bool true) ∧ Kept (fun _ => False) w w' := by
  have hc1 := cut_any s hs
  have hc2 := cut_any t ht
  have hz1 := cutT_size s
  have hz2 := cutT_size t
  generalize cutT s = x at hc1 hz1
  generalize cutT t = y at hc2 hz2
  have hl1 := less_any x y (by omega) (by omega)
  have hl2 := less_any y x (by omega) (by omega)
  have hp1 : ∀ W, Calls Tryd.prog 33 #[.string x, .string y] W fun e w' => e = .returned (.int .i64 (compareS x y)) ∧ Kept (fun _ => False) W w' := fun W => (compare_any x y (by omega) (by omega) W).mono fun e w' h => ⟨h.1, h.2.1⟩
  have hp2 : ∀ W, Calls Tryd.prog 33 #[.string y, .string x] W fun e w' => e = .returned (.int .i64 (compareS y x)) ∧ Kept (fun _ => False) W w' := fun W => (compare_any y x (by omega) (by omega) W).mono fun e w' h => ⟨h.1, h.2.1⟩
  have hv := compareT_vals x y
  have hsw := compareT_swap x y
  rw [hsw] at hp2 hl2
  generalize compareS x y = r at hl1 hl2 hp1 hp2 hv
  have HC1 := Lib.hid hc1; have HC2 := Lib.hid hc2
  clear hc1 hc2 hz1 hz2 hs ht hsw
  rcases hv with rfl | rfl | rfl
  · have HL1 : Hid (∀ W, Calls Tryd.prog 32 #[.string x, .string y] W fun e w' => e = .returned (.bool true) ∧ Kept (fun _ => False) W w') := hl1
    have HP1 := Lib.hid hp1
    have HP2 : Hid (∀ W, Calls Tryd.prog 33 #[.string y, .string x] W fun e w' => e = .returned (.int .i64 1) ∧ Kept (fun _ => False) W w') := hp2
    clear hl1 hl2 hp1 hp2
    go_enter Tryd.func6, Tryd.ntmps6
    go_wp2_with fail
    refine (awake7_any _).mono ?_
    rintro e w1 ⟨rfl, k1⟩
    have K1 := Lib.hid k1; clear k1
    go_wp2_with fail
    refine (HC1.out _).mono ?_
    rintro e w2 ⟨rfl, rfl⟩
    go_wp2_with fail
    refine (HC2.out _).mono ?_
    rintro e w3 ⟨rfl, rfl⟩
    go_wp2_with fail
    refine (HL1.out _).mono ?_
    rintro e w4 ⟨rfl, k4⟩
    have K4 := Lib.hid (K1.out.then k4); clear k4
    go_wp2_with fail
    refine (HP1.out _).mono ?_
    rintro e w5 ⟨rfl, k5⟩
    have K5 := Lib.hid (K4.out.then k5); clear k5
    go_wp2_with fail
    refine (HP2.out _).mono ?_
    rintro e w6 ⟨rfl, k6⟩
    have K6 := Lib.hid (K5.out.then k6); clear k6
    go_wp2_with fail
    go_ret
    exact ⟨rfl, K6.out⟩
  · have HL1 : Hid (∀ W, Calls Tryd.prog 32 #[.string x, .string y] W fun e w' => e = .returned (.bool false) ∧ Kept (fun _ => False) W w') := hl1
    have HL2 : Hid (∀ W, Calls Tryd.prog 32 #[.string y, .string x] W fun e w' => e = .returned (.bool false) ∧ Kept (fun _ => False) W w') := hl2
    have HP1 := Lib.hid hp1
    have HP2 : Hid (∀ W, Calls Tryd.prog 33 #[.string y, .string x] W fun e w' => e = .returned (.int .i64 0) ∧ Kept (fun _ => False) W w') := hp2
    clear hl1 hl2 hp1 hp2
    go_enter Tryd.func6, Tryd.ntmps6
    go_wp2_with fail
    refine (awake7_any _).mono ?_
    rintro e w1 ⟨rfl, k1⟩
    have K1 := Lib.hid k1; clear k1
    go_wp2_with fail
    refine (HC1.out _).mono ?_
    rintro e w2 ⟨rfl, rfl⟩
    go_wp2_with fail
    refine (HC2.out _).mono ?_
    rintro e w3 ⟨rfl, rfl⟩
    go_wp2_with fail
    refine (HL1.out _).mono ?_
    rintro e w4 ⟨rfl, k4⟩
    have K4 := Lib.hid (K1.out.then k4); clear k4
    go_wp2_with fail
    refine (HL2.out _).mono ?_
    rintro e w4b ⟨rfl, k4b⟩
    have K4b := Lib.hid (K4.out.then k4b); clear k4b
    go_wp2_with fail
    refine (HP1.out _).mono ?_
    rintro e w5 ⟨rfl, k5⟩
    have K5 := Lib.hid (K4b.out.then k5); clear k5
    go_wp2_with fail
    refine (HP2.out _).mono ?_
    rintro e w6 ⟨rfl, k6⟩
    have K6 := Lib.hid (K5.out.then k6); clear k6
    go_wp2_with fail
    go_ret
    exact ⟨rfl, K6.out⟩
  · have HL1 : Hid (∀ W, Calls Tryd.prog 32 #[.string x, .string y] W fun e w' => e = .returned (.bool false) ∧ Kept (fun _ => False) W w') := hl1
    have HL2 : Hid (∀ W, Calls Tryd.prog 32 #[.string y, .string x] W fun e w' => e = .returned (.bool true) ∧ Kept (fun _ => False) W w') := hl2
    have HP1 := Lib.hid hp1
    have HP2 : Hid (∀ W, Calls Tryd.prog 33 #[.string y, .string x] W fun e w' => e = .returned (.int .i64 (-1)) ∧ Kept (fun _ => False) W w') := hp2
    clear hl1 hl2 hp1 hp2
    go_enter Tryd.func6, Tryd.ntmps6
    go_wp2_with fail
    refine (awake7_any _).mono ?_
    rintro e w1 ⟨rfl, k1⟩
    have K1 := Lib.hid k1; clear k1
    go_wp2_with fail
    refine (HC1.out _).mono ?_
    rintro e w2 ⟨rfl, rfl⟩
    go_wp2_with fail
    refine (HC2.out _).mono ?_
    rintro e w3 ⟨rfl, rfl⟩
    go_wp2_with fail
    refine (HL1.out _).mono ?_
    rintro e w4 ⟨rfl, k4⟩
    have K4 := Lib.hid (K1.out.then k4); clear k4
    go_wp2_with fail
    refine (HL2.out _).mono ?_
    rintro e w4b ⟨rfl, k4b⟩
    have K4b := Lib.hid (K4.out.then k4b); clear k4b
    go_wp2_with fail
    refine (HP1.out _).mono ?_
    rintro e w5 ⟨rfl, k5⟩
    have K5 := Lib.hid (K4b.out.then k5); clear k5
    go_wp2_with fail
    refine (HP2.out _).mono ?_
    rintro e w6 ⟨rfl, k6⟩
    have K6 := Lib.hid (K5.out.then k6); clear k6
    go_wp2_with fail
    go_ret
    exact ⟨rfl, K6.out⟩
end Go.Proofs.YtbmkfacmbjnkaaaDoor
