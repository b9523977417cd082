/-
  Tokens: the methods of a nil reader.
-/
import Derived.Test.YthkjcgcfbodgbaaDoorTkZ
namespace Go.Proofs.YthkjcgcfbodgbaaDoor
open Go.RowKit Go.Shelf
set_option linter.unusedSimpArgs false
set_option linter.unusedVariables false

set_option maxRecDepth 100000 in
set_option maxHeartbeats 1600000 in
theorem nil_peek (w : World) : Calls Tryd.prog 33 #[.pointer none] w fun e w' => e = .returned (.agg #[.int .u8 0, .string ⟨#[]⟩, .int .i64 0, .int .i64 0]) ∧ Kept (fun _ => False) w w' := by
  have hk0 := Kept.alloc (fun _ => False) w (.cells #[.int .u8 0, .string ⟨#[]⟩, .int .i64 0, .int .i64 0] 31)
  have HK0 := Lib.hid hk0
  have q0 : (w.alloc (.cells #[.int .u8 0, .string ⟨#[]⟩, .int .i64 0, .int .i64 0] 31)).cell? ⟨w.heap.size, 0, none⟩ = some (.int .u8 0) := by go_simp
  have q1 : (w.alloc (.cells #[.int .u8 0, .string ⟨#[]⟩, .int .i64 0, .int .i64 0] 31)).cell? ⟨w.heap.size, 1, none⟩ = some (.string ⟨#[]⟩) := by go_simp
  have q2 : (w.alloc (.cells #[.int .u8 0, .string ⟨#[]⟩, .int .i64 0, .int .i64 0] 31)).cell? ⟨w.heap.size, 2, none⟩ = some (.int .i64 0) := by go_simp
  have q3 : (w.alloc (.cells #[.int .u8 0, .string ⟨#[]⟩, .int .i64 0, .int .i64 0] 31)).cell? ⟨w.heap.size, 3, none⟩ = some (.int .i64 0) := by go_simp
  have g0 : (w.alloc (.cells #[.int .u8 0, .string ⟨#[]⟩, .int .i64 0, .int .i64 0] 31)).frozen? ⟨w.heap.size, 0, none⟩ = false := by go_simp
  have g1 : (w.alloc (.cells #[.int .u8 0, .string ⟨#[]⟩, .int .i64 0, .int .i64 0] 31)).frozen? ⟨w.heap.size, 1, none⟩ = false := by go_simp
  have g2 : (w.alloc (.cells #[.int .u8 0, .string ⟨#[]⟩, .int .i64 0, .int .i64 0] 31)).frozen? ⟨w.heap.size, 2, none⟩ = false := by go_simp
  have g3 : (w.alloc (.cells #[.int .u8 0, .string ⟨#[]⟩, .int .i64 0, .int .i64 0] 31)).frozen? ⟨w.heap.size, 3, none⟩ = false := by go_simp
  have HKX : Hid (∀ W, Kept (fun _ => False) w W → ∀ a b c d, Kept (fun _ => False) w ((((W.setCell ⟨w.heap.size, 0, none⟩ a).setCell ⟨w.heap.size, 1, none⟩ b).setCell ⟨w.heap.size, 2, none⟩ c).setCell ⟨w.heap.size, 3, none⟩ d)) := fun W hW a b c d =>
    hW.trans (keptBox W w.heap.size a b c d) (T := fun _ => False) (fun _ _ h => h) (fun i hi e => by have e : i = w.heap.size := e; omega)
  clear hk0
  go_enter Tryd.func33, Tryd.ntmps33
  go_wp2_with fail
  generalize w.alloc (.cells #[.int .u8 0, .string ⟨#[]⟩, .int .i64 0, .int .i64 0] 31) = wx at *
  generalize w.heap.size = bx at *
  go_quiet (fail)
  have HK1 := Lib.hid (HK0.out.drewN nq)
  replace g0 : (wx.drewN nq).frozen? _ = _ := g0
  replace g1 : (wx.drewN nq).frozen? _ = _ := g1
  replace g2 : (wx.drewN nq).frozen? _ = _ := g2
  replace g3 : (wx.drewN nq).frozen? _ = _ := g3
  replace q0 : (wx.drewN nq).cell? _ = _ := q0
  replace q1 : (wx.drewN nq).cell? _ = _ := q1
  replace q2 : (wx.drewN nq).cell? _ = _ := q2
  replace q3 : (wx.drewN nq).cell? _ = _ := q3
  have KE := Lib.hid (HKX.out _ HK1.out)
  clear HK0 HKX HK1
  generalize wx.drewN nq = wd at *
  go_wp2_with fail
  exact bodyPost_ret (v := .agg #[.int .u8 0, .string ⟨#[]⟩, .int .i64 0, .int .i64 0]) (by simp [results, Tryd.results33, go_sem, q0, q1, q2, q3, g0, g1, g2, g3]) rfl ⟨rfl, KE.out _ _ _ _⟩

set_option maxRecDepth 100000 in
theorem nil_fail (e : Nat) (w : World) : Calls Tryd.prog 32 #[.pointer none, .int .i64 (e : Int)] w fun x w' => x = .returned (.tuple #[]) ∧ Kept (fun _ => False) w w' := by
  go_enter Tryd.func32, Tryd.ntmps32
  go_wp2_with fail
  first | go_end0 | refine bodyPost_ret (results_none rfl _ _ _) rfl ?_
  exact ⟨rfl, Kept.refl _ _⟩

set_option maxRecDepth 100000 in
theorem nil_err (w : World) : Calls Tryd.prog 29 #[.pointer none] w fun x w' => x = .returned (.tuple #[.int .i64 0, .int .i64 1]) ∧ Kept (fun _ => False) w w' := by
  go_enter Tryd.func29, Tryd.ntmps29
  go_wp2_with fail
  go_ret2
  exact ⟨rfl, Kept.refl _ _⟩

set_option maxRecDepth 100000 in
set_option maxHeartbeats 1600000 in
theorem nil_next (w : World) : Calls Tryd.prog 34 #[.pointer none] w fun e w' => e = .returned (.agg #[.int .u8 0, .string ⟨#[]⟩, .int .i64 0, .int .i64 0]) ∧ Kept (fun _ => False) w w' := by
  have hk0 := Kept.alloc (fun _ => False) w (.cells #[.int .u8 0, .string ⟨#[]⟩, .int .i64 0, .int .i64 0] 31)
  have HK0 := Lib.hid hk0
  clear hk0
  go_enter Tryd.func34, Tryd.ntmps34
  go_wp2_with fail
  refine (nil_peek _).mono ?_
  rintro e w2 ⟨rfl, k2⟩
  obtain ⟨q0, q1, q2, q3, g0, g1, g2, g3, hbl⟩ := box4 k2
  have hbb2 : ¬ w.heap.size = w2.heap.size := by omega
  have KW := Lib.hid (HK0.out.then k2)
  have HE : Hid (∀ a b c d, Kept (fun _ => False) w (((((w2.setCell ⟨w.heap.size, 0, none⟩ a).setCell ⟨w.heap.size, 1, none⟩ b).setCell ⟨w.heap.size, 2, none⟩ c).setCell ⟨w.heap.size, 3, none⟩ d).alloc (.cells #[.int .u8 0, .string ⟨#[]⟩, .int .i64 0, .int .i64 0] 31))) := fun a b c d =>
    (KW.out.trans (keptBox w2 w.heap.size a b c d) (T := fun _ => False) (fun _ _ h => h) (fun i hi e => by have e : i = w.heap.size := e; omega)).then (Kept.alloc _ _ _)
  clear k2
  go_wp2_with fail
  exact bodyPost_ret (v := .agg #[.int .u8 0, .string ⟨#[]⟩, .int .i64 0, .int .i64 0]) (by simp [results, Tryd.results34, go_sem, q0, q1, q2, q3, g0, g1, g2, g3, hbb2, hbl]) rfl ⟨rfl, HE.out _ _ _ _⟩

set_option maxRecDepth 100000 in
theorem nil_is (s : ByteArray) (w : World) : Calls Tryd.prog 35 #[.pointer none, .string s] w fun e w' => e = .returned (.bool false) ∧ Kept (fun _ => False) w w' := by
  go_enter Tryd.func35, Tryd.ntmps35
  go_wp2_with fail
  refine (nil_peek _).mono ?_
  rintro e w2 ⟨rfl, k2⟩
  have K2 := Lib.hid (k2.then (Kept.alloc (fun _ => False) w2 (.cells #[.int .u8 0, .string ⟨#[]⟩, .int .i64 0, .int .i64 0] 31)))
  clear k2
  go_wp2_with fail
  go_ret
  exact ⟨rfl, K2.out⟩

set_option maxRecDepth 100000 in
theorem nil_accept (s : ByteArray) (w : World) : Calls Tryd.prog 36 #[.pointer none, .string s] w fun e w' => e = .returned (.bool false) ∧ Kept (fun _ => False) w w' := by
  go_enter Tryd.func36, Tryd.ntmps36
  go_wp2_with fail
  refine (nil_is s _).mono ?_
  rintro e w2 ⟨rfl, k2⟩
  have K2 := Lib.hid k2
  clear k2
  go_wp2_with fail
  go_ret
  exact ⟨rfl, K2.out⟩

set_option maxRecDepth 100000 in
theorem nil_expect (s : ByteArray) (w : World) : Calls Tryd.prog 31 #[.pointer none, .string s] w fun e w' => e = .returned (.tuple #[]) ∧ Kept (fun _ => False) w w' := by
  have HF := Lib.hid (fun W => nil_fail 8 W)
  go_enter Tryd.func31, Tryd.ntmps31
  go_wp2_with fail
  refine (nil_accept s _).mono ?_
  rintro e w2 ⟨rfl, k2⟩
  have K2 := Lib.hid k2
  clear k2
  go_wp2_with fail
  refine (HF.out _).mono ?_
  rintro e w3 ⟨rfl, k3⟩
  have K3 := Lib.hid (K2.out.then k3)
  clear k3
  go_wp2_with fail
  go_end0
  exact ⟨rfl, K3.out⟩

set_option maxRecDepth 100000 in
theorem nil_number (lo hi : Int) (w : World) : Calls Tryd.prog 37 #[.pointer none, .int .i64 lo, .int .i64 hi] w fun e w' => e = .returned (.int .i64 0) ∧ Kept (fun _ => False) w w' := by
  have HF := Lib.hid (fun W => nil_fail 8 W)
  go_enter Tryd.func37, Tryd.ntmps37
  go_wp2_with fail
  refine (nil_peek _).mono ?_
  rintro e w2 ⟨rfl, k2⟩
  have K2 := Lib.hid (k2.then (Kept.alloc (fun _ => False) w2 (.cells #[.int .u8 0, .string ⟨#[]⟩, .int .i64 0, .int .i64 0] 31)))
  clear k2
  go_wp2_with fail
  refine (HF.out _).mono ?_
  rintro e w3 ⟨rfl, k3⟩
  have K3 := Lib.hid (K2.out.then k3)
  clear k3
  go_wp2_with fail
  go_ret
  exact ⟨rfl, K3.out⟩

set_option maxRecDepth 100000 in
theorem nil_name (w : World) : Calls Tryd.prog 28 #[.pointer none] w fun e w' => e = .returned (.string ⟨#[]⟩) ∧ Kept (fun _ => False) w w' := by
  have HF := Lib.hid (fun W => nil_fail 8 W)
  go_enter Tryd.func28, Tryd.ntmps28
  go_wp2_with fail
  refine (nil_peek _).mono ?_
  rintro e w2 ⟨rfl, k2⟩
  have b0 : (w2.alloc (.cells #[.int .u8 0, .string ⟨#[]⟩, .int .i64 0, .int .i64 0] 31)).cell? ⟨w2.heap.size, 0, none⟩ = some (.int .u8 0) := by go_simp
  have K2 := Lib.hid (k2.then (Kept.alloc (fun _ => False) w2 (.cells #[.int .u8 0, .string ⟨#[]⟩, .int .i64 0, .int .i64 0] 31)))
  clear k2
  go_wp2_with fail
  generalize w2.alloc (.cells #[.int .u8 0, .string ⟨#[]⟩, .int .i64 0, .int .i64 0] 31) = w5 at *
  generalize w2.heap.size = bx at *
  go_quiet (fail)
  have K5 := Lib.hid (K2.out.drewN nq)
  clear b0 K2
  generalize w5.drewN nq = wd at *
  go_wp2_with fail
  refine (HF.out _).mono ?_
  rintro e w3 ⟨rfl, k3⟩
  have K3 := Lib.hid (K5.out.then k3)
  clear k3
  go_wp2_with fail
  go_ret
  exact ⟨rfl, K3.out⟩
end Go.Proofs.YthkjcgcfbodgbaaDoor
