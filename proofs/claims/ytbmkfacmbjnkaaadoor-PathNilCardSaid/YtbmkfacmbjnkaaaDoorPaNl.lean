/-
  A nil tree; arbaclaw07.PathNil: the walk of the law.
-/
import Derived.Test.YtbmkfacmbjnkaaaDoorPaAk
namespace Go.Proofs.YtbmkfacmbjnkaaaDoor
open Go.RowKit Go.Maps Go.WideMaps Go.ChangeMaps
set_option linter.unusedSimpArgs false
set_option linter.unusedVariables false

set_option maxRecDepth 100000 in
theorem add_nil (w : World) (p : ByteArray) : Calls Tryd.prog 43 #[.pointer none, .string p] w fun e w' => e = .returned (.tuple #[.pointer none, .int .i64 1]) ∧ w = w' := by
  go_enter Tryd.func43, Tryd.ntmps43
  go_wp2_with fail
  go_ret2
  exact ⟨rfl, rfl⟩
set_option maxRecDepth 100000 in
theorem remove_nil (w : World) (p : ByteArray) : Calls Tryd.prog 45 #[.pointer none, .string p] w fun e w' => e = .returned (.tuple #[.pointer none, .int .i64 1]) ∧ w = w' := by
  go_enter Tryd.func45, Tryd.ntmps45
  go_wp2_with fail
  go_ret2
  exact ⟨rfl, rfl⟩
set_option maxRecDepth 100000 in
theorem has_nil (w : World) (p : ByteArray) : Calls Tryd.prog 38 #[.pointer none, .string p] w fun e w' => e = .returned (.bool false) ∧ w = w' := by
  go_enter Tryd.func38, Tryd.ntmps38
  go_wp2_with fail
  go_ret
  exact ⟨rfl, rfl⟩
set_option maxRecDepth 100000 in
theorem those_nil (w : World) (v : Value) : Calls Tryd.prog 67 #[.pointer none, v] w fun e w' => e = .returned (.slice none 0 0) ∧ w = w' := by
  go_enter Tryd.func67, Tryd.ntmps67
  go_wp2_with fail
  go_ret
  exact ⟨rfl, rfl⟩
set_option maxRecDepth 100000 in
theorem children_nil (w : World) (p : ByteArray) : Calls Tryd.prog 40 #[.pointer none, .string p] w fun e w' => e = .returned (.slice none 0 0) ∧ Kept (fun _ => False) w w' := by
  have HK0 := Lib.hid (Kept.alloc (fun _ => False) w (.cells #[.string p] 9))
  go_enter Tryd.func40, Tryd.ntmps40
  go_wp2_with fail
  refine (those_nil _ _).mono ?_
  rintro e w1 ⟨rfl, rfl⟩
  go_wp2_with fail
  go_ret
  exact ⟨rfl, HK0.out⟩
set_option maxRecDepth 100000 in
theorem below_nil (w : World) (p : ByteArray) : Calls Tryd.prog 37 #[.pointer none, .string p] w fun e w' => e = .returned (.slice none 0 0) ∧ Kept (fun _ => False) w w' := by
  have HK0 := Lib.hid (Kept.alloc (fun _ => False) w (.cells #[.string p] 9))
  go_enter Tryd.func37, Tryd.ntmps37
  go_wp2_with fail
  refine (has_nil _ _).mono ?_
  rintro e w1 ⟨rfl, rfl⟩
  go_wp2_with fail
  go_ret
  exact ⟨rfl, HK0.out⟩
set_option maxRecDepth 100000 in
theorem len_nil7 (w : World) : Calls Tryd.prog 36 #[.pointer none] w fun e w' => e = .returned (.int .i64 0) ∧ w = w' := by
  go_enter Tryd.func36, Tryd.ntmps36
  go_wp2_with fail
  go_ret
  exact ⟨rfl, rfl⟩
set_option maxRecDepth 100000 in
theorem equal_nn (w : World) : Calls Tryd.prog 46 #[.pointer none, .pointer none] w fun e w' => e = .returned (.bool true) ∧ w = w' := by
  go_enter Tryd.func46, Tryd.ntmps46
  go_wp2_with fail
  go_ret
  exact ⟨rfl, rfl⟩
set_option maxRecDepth 100000 in
theorem equal_nt (w : World) (g : Nat) : Calls Tryd.prog 46 #[.pointer none, .pointer (some ⟨g, 0, none⟩)] w fun e w' => e = .returned (.bool false) ∧ w = w' := by
  go_enter Tryd.func46, Tryd.ntmps46
  go_wp2_with fail
  go_ret
  exact ⟨rfl, rfl⟩
set_option maxRecDepth 100000 in
theorem equal_tn (w : World) (g : Nat) : Calls Tryd.prog 46 #[.pointer (some ⟨g, 0, none⟩), .pointer none] w fun e w' => e = .returned (.bool false) ∧ w = w' := by
  go_enter Tryd.func46, Tryd.ntmps46
  go_wp2_with fail
  go_ret
  exact ⟨rfl, rfl⟩

set_option maxRecDepth 100000 in
set_option maxHeartbeats 3200000 in
theorem nil_law (s : ByteArray) (hs : s.size ≤ maxLen) (w : World) :
    Calls Tryd.prog 12 #[.string s] w fun e w' => e = .returned (.bool true) ∧ Kept (fun _ => False) w w' := by
  have hc1 := cut_any s hs
  generalize cutT s = x at hc1
  have HC1 := Lib.hid hc1
  clear hc1 hs
  go_enter Tryd.func12, Tryd.ntmps12
  go_wp2_with fail
  refine (awake7_any _).mono ?_
  rintro e w1 ⟨rfl, k1⟩
  have K1 := Lib.hid k1; clear k1
  go_wp2_with fail
  refine (HC1.out _).mono ?_
  rintro e w2 ⟨rfl, rfl⟩
  go_wp2_with fail
  refine (add_nil _ _).mono ?_
  rintro e w3 ⟨rfl, rfl⟩
  go_wp2_with fail
  refine (remove_nil _ _).mono ?_
  rintro e w4 ⟨rfl, rfl⟩
  go_wp2_with fail
  refine (has_nil _ _).mono ?_
  rintro e w5 ⟨rfl, rfl⟩
  go_wp2_with fail
  refine (children_nil _ _).mono ?_
  rintro e w6 ⟨rfl, k6⟩
  have K6 := Lib.hid (K1.out.then k6); clear k6
  go_wp2_with fail
  refine (below_nil _ _).mono ?_
  rintro e w7 ⟨rfl, k7⟩
  have K7 := Lib.hid (K6.out.then k7); clear k7
  go_wp2_with fail
  refine (len_nil7 _).mono ?_
  rintro e w8 ⟨rfl, rfl⟩
  go_wp2_with fail
  refine (equal_nn _).mono ?_
  rintro e w9 ⟨rfl, rfl⟩
  go_wp2_with fail
  refine (newTreeL_any _).mono ?_
  rintro e w10 ⟨g10, rfl, _, _, k10⟩
  have K10 := Lib.hid (K7.out.then k10); clear k10
  go_wp2_with fail
  refine (equal_nt _ _).mono ?_
  rintro e w11 ⟨rfl, rfl⟩
  go_wp2_with fail
  refine (newTreeL_any _).mono ?_
  rintro e w12 ⟨g12, rfl, _, _, k12⟩
  have K12 := Lib.hid (K10.out.then k12); clear k12
  go_wp2_with fail
  refine (equal_tn _ _).mono ?_
  rintro e w13 ⟨rfl, rfl⟩
  go_wp2_with fail
  go_ret
  exact ⟨rfl, K12.out⟩
end Go.Proofs.YtbmkfacmbjnkaaaDoor
