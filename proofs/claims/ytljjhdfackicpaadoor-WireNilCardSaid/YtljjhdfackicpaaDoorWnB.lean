/-
  arbaclaw02.agree with a nil reader, and put with a nil writer.
-/
import Derived.Test.YtljjhdfackicpaaDoorWnA
import Derived.Test.YtljjhdfackicpaaDoorSame
import Derived.Test.YtljjhdfackicpaaDoorOfN
import Derived.Deep.RegionHeld3
import Derived.Deep.DrawnRows
import Derived.BigQuiet
namespace Go.Proofs.YtljjhdfackicpaaDoor
open Go.RowKit
attribute [local go_sem ↓] Go.wp_at_zero Go.wp_at_succ
set_option linter.unusedSimpArgs false
set_option linter.unusedVariables false

theorem qz {f : FuncId} {args : Array Value} {v : Value} {w : World} (j : Nat) (h : Calls Tryd.prog f args (w.drewN j) fun e w' => e = .returned v ∧ w.drewN j = w') : Calls Tryd.prog f args (w.drewN j) fun e w' => e = .returned v ∧ ∃ m, w' = w.drewN m :=
  h.mono fun _ _ hh => ⟨hh.1, j, hh.2.symm⟩

theorem memS_none : memS 0 4096 = [] := by
  unfold memS
  have : (List.range 4096).filter (Nat.testBit 0) = [] := by
    rw [List.filter_eq_nil_iff]
    intro a _
    simp
  rw [this]; rfl
set_option maxRecDepth 100000 in
theorem same_nil (w : World) : Calls Tryd.prog 85 #[.slice none 0 0, .slice none 0 0] w fun e w' => e = .returned (.bool true) ∧ w = w' := by
  have h := same_any w (.slice none 0 0) (.slice none 0 0) [] [] (Or.inl ⟨rfl, rfl⟩) (Or.inl ⟨rfl, rfl⟩) (by simp) (by simp)
  exact h.mono fun _ _ hh => ⟨hh.1.trans (by simp), hh.2⟩
set_option maxRecDepth 100000 in
theorem eqi_nil (a : Option Addr) (c : Nat) (w : World) : Calls Tryd.prog 34 #[.slice a 0 c, .slice none 0 0] w fun e w' => e = .returned (.bool true) ∧ w = w' := by
  go_enter Tryd.func34, Tryd.ntmps34
  go_wp2_with fail
  go_loop [13] (fun iv => iv = .int .i64 0) (fun _ => 0)
  case atStart => rfl
  case round =>
    subst hrel
    go_wp2_with fail
    go_ret
    exact ⟨rfl, rfl⟩

section
variable (rb k : Nat) (m lo : Int) (w : World)

set_option maxRecDepth 100000 in
set_option maxHeartbeats 1600000 in
theorem ag0 (hc : w.cell? ⟨rb, 1, none⟩ = some (.int .i64 1)) (hk11 : ((k : Int) % 11) = 0) :
    Calls Tryd.prog 48 #[.pointer none, .pointer (some ⟨rb, 0, none⟩), .agg #[.int .u8 k, .int .i64 m, .int .i64 lo]] w fun e w' => (∃ q, e = .returned q) ∧ Kept (fun _ => False) w w' := by
  have hlt := World.block_lt_of_cell? w _ hc
  have KA := Lib.hid (Kept.alloc (fun _ => False) w (.cells #[.int .u8 k, .int .i64 m, .int .i64 lo] 73))
  have hcA := Lib.hid (fun (W : World) (hk : Kept (fun _ => False) w W) => (hk.cell (p := ⟨rb, 1, none⟩) hlt (fun h => h)).trans hc)
  have HS := Lib.hid (fun (W : World) => reads_str (w := W) (v := .slice none 0 0) (xs := []) (Or.inl ⟨rfl, rfl⟩))
  clear hc hlt
  go_enter Tryd.func48, Tryd.ntmps48
  go_wp2_with fail
  go_quiet ((first | (go_at_call 55; with_reducible exact qz _ (nr_uint _ _)) | (go_at_call 87; with_reducible exact qz _ (rr_uint rb _ _ (hcA.out _ (KA.out.drewN _))))))
  go_wp2_with fail
  go_ret
  exact ⟨⟨_, rfl⟩, KA.out.drewN _⟩

set_option maxRecDepth 100000 in
set_option maxHeartbeats 1600000 in
theorem ag1 (hc : w.cell? ⟨rb, 1, none⟩ = some (.int .i64 1)) (hk11 : ((k : Int) % 11) = 1) :
    Calls Tryd.prog 48 #[.pointer none, .pointer (some ⟨rb, 0, none⟩), .agg #[.int .u8 k, .int .i64 m, .int .i64 lo]] w fun e w' => (∃ q, e = .returned q) ∧ Kept (fun _ => False) w w' := by
  have hlt := World.block_lt_of_cell? w _ hc
  have KA := Lib.hid (Kept.alloc (fun _ => False) w (.cells #[.int .u8 k, .int .i64 m, .int .i64 lo] 73))
  have hcA := Lib.hid (fun (W : World) (hk : Kept (fun _ => False) w W) => (hk.cell (p := ⟨rb, 1, none⟩) hlt (fun h => h)).trans hc)
  have HS := Lib.hid (fun (W : World) => reads_str (w := W) (v := .slice none 0 0) (xs := []) (Or.inl ⟨rfl, rfl⟩))
  clear hc hlt
  go_enter Tryd.func48, Tryd.ntmps48
  go_wp2_with fail
  go_quiet ((first | (go_at_call 88; with_reducible exact qz _ (nr_number _ _)) | (go_at_call 89; with_reducible exact qz _ (rr_number rb _ _ (hcA.out _ (KA.out.drewN _))))))
  go_wp2_with fail
  go_ret
  exact ⟨⟨_, rfl⟩, KA.out.drewN _⟩

set_option maxRecDepth 100000 in
set_option maxHeartbeats 1600000 in
theorem ag2 (hc : w.cell? ⟨rb, 1, none⟩ = some (.int .i64 1)) (hk11 : ((k : Int) % 11) = 2) :
    Calls Tryd.prog 48 #[.pointer none, .pointer (some ⟨rb, 0, none⟩), .agg #[.int .u8 k, .int .i64 m, .int .i64 lo]] w fun e w' => (∃ q, e = .returned q) ∧ Kept (fun _ => False) w w' := by
  have hlt := World.block_lt_of_cell? w _ hc
  have KA := Lib.hid (Kept.alloc (fun _ => False) w (.cells #[.int .u8 k, .int .i64 m, .int .i64 lo] 73))
  have hcA := Lib.hid (fun (W : World) (hk : Kept (fun _ => False) w W) => (hk.cell (p := ⟨rb, 1, none⟩) hlt (fun h => h)).trans hc)
  have HS := Lib.hid (fun (W : World) => reads_str (w := W) (v := .slice none 0 0) (xs := []) (Or.inl ⟨rfl, rfl⟩))
  clear hc hlt
  go_enter Tryd.func48, Tryd.ntmps48
  go_wp2_with fail
  go_quiet ((first | (go_at_call 90; with_reducible exact qz _ (nr_int _ _ _)) | (go_at_call 91; with_reducible exact qz _ (rr_int rb _ _ _ (hcA.out _ (KA.out.drewN _))))))
  go_wp2_with fail
  go_ret
  exact ⟨⟨_, rfl⟩, KA.out.drewN _⟩

set_option maxRecDepth 100000 in
set_option maxHeartbeats 1600000 in
theorem ag3 (hc : w.cell? ⟨rb, 1, none⟩ = some (.int .i64 1)) (hk11 : ((k : Int) % 11) = 3) :
    Calls Tryd.prog 48 #[.pointer none, .pointer (some ⟨rb, 0, none⟩), .agg #[.int .u8 k, .int .i64 m, .int .i64 lo]] w fun e w' => (∃ q, e = .returned q) ∧ Kept (fun _ => False) w w' := by
  have hlt := World.block_lt_of_cell? w _ hc
  have KA := Lib.hid (Kept.alloc (fun _ => False) w (.cells #[.int .u8 k, .int .i64 m, .int .i64 lo] 73))
  have hcA := Lib.hid (fun (W : World) (hk : Kept (fun _ => False) w W) => (hk.cell (p := ⟨rb, 1, none⟩) hlt (fun h => h)).trans hc)
  have HS := Lib.hid (fun (W : World) => reads_str (w := W) (v := .slice none 0 0) (xs := []) (Or.inl ⟨rfl, rfl⟩))
  clear hc hlt
  go_enter Tryd.func48, Tryd.ntmps48
  go_wp2_with fail
  have hs9 := fun W => HS.out W
  go_quiet ((first | (go_at_call 92; with_reducible exact qz _ (nr_string _ _)) | (go_at_call 93; with_reducible exact qz _ (rr_bytes rb _ _ (hcA.out _ (KA.out.drewN _))))))
  go_wp2_with fail
  go_ret
  exact ⟨⟨_, rfl⟩, KA.out.drewN _⟩

set_option maxRecDepth 100000 in
set_option maxHeartbeats 1600000 in
theorem ag4 (hc : w.cell? ⟨rb, 1, none⟩ = some (.int .i64 1)) (hk11 : ((k : Int) % 11) = 4) :
    Calls Tryd.prog 48 #[.pointer none, .pointer (some ⟨rb, 0, none⟩), .agg #[.int .u8 k, .int .i64 m, .int .i64 lo]] w fun e w' => (∃ q, e = .returned q) ∧ Kept (fun _ => False) w w' := by
  have hlt := World.block_lt_of_cell? w _ hc
  have KA := Lib.hid (Kept.alloc (fun _ => False) w (.cells #[.int .u8 k, .int .i64 m, .int .i64 lo] 73))
  have hcA := Lib.hid (fun (W : World) (hk : Kept (fun _ => False) w W) => (hk.cell (p := ⟨rb, 1, none⟩) hlt (fun h => h)).trans hc)
  have HS := Lib.hid (fun (W : World) => reads_str (w := W) (v := .slice none 0 0) (xs := []) (Or.inl ⟨rfl, rfl⟩))
  clear hc hlt
  go_enter Tryd.func48, Tryd.ntmps48
  go_wp2_with fail
  go_quiet ((first | (go_at_call 56; with_reducible exact qz _ (nr_bytes _ _)) | (go_at_call 93; with_reducible exact qz _ (rr_bytes rb _ _ (hcA.out _ (KA.out.drewN _)))) | (go_at_call 85; with_reducible exact qz _ (same_nil _))))
  go_wp2_with fail
  go_ret
  exact ⟨⟨_, rfl⟩, KA.out.drewN _⟩

set_option maxRecDepth 100000 in
set_option maxHeartbeats 1600000 in
theorem ag6 (hc : w.cell? ⟨rb, 1, none⟩ = some (.int .i64 1)) (hk11 : ((k : Int) % 11) = 6) :
    Calls Tryd.prog 48 #[.pointer none, .pointer (some ⟨rb, 0, none⟩), .agg #[.int .u8 k, .int .i64 m, .int .i64 lo]] w fun e w' => (∃ q, e = .returned q) ∧ Kept (fun _ => False) w w' := by
  have hlt := World.block_lt_of_cell? w _ hc
  have KA := Lib.hid (Kept.alloc (fun _ => False) w (.cells #[.int .u8 k, .int .i64 m, .int .i64 lo] 73))
  have hcA := Lib.hid (fun (W : World) (hk : Kept (fun _ => False) w W) => (hk.cell (p := ⟨rb, 1, none⟩) hlt (fun h => h)).trans hc)
  have HS := Lib.hid (fun (W : World) => reads_str (w := W) (v := .slice none 0 0) (xs := []) (Or.inl ⟨rfl, rfl⟩))
  clear hc hlt
  go_enter Tryd.func48, Tryd.ntmps48
  go_wp2_with fail
  go_quiet ((first | (go_at_call 95; with_reducible exact qz _ (nr_raw _ _)) | (go_at_call 96; with_reducible exact qz _ (rr_raw rb _ _ (hcA.out _ (KA.out.drewN _)))) | (go_at_call 85; with_reducible exact qz _ (same_nil _))))
  go_wp2_with fail
  go_ret
  exact ⟨⟨_, rfl⟩, KA.out.drewN _⟩

set_option maxRecDepth 100000 in
set_option maxHeartbeats 1600000 in
theorem ag7 (hc : w.cell? ⟨rb, 1, none⟩ = some (.int .i64 1)) (hk11 : ((k : Int) % 11) = 7) :
    Calls Tryd.prog 48 #[.pointer none, .pointer (some ⟨rb, 0, none⟩), .agg #[.int .u8 k, .int .i64 m, .int .i64 lo]] w fun e w' => (∃ q, e = .returned q) ∧ Kept (fun _ => False) w w' := by
  have hlt := World.block_lt_of_cell? w _ hc
  have KA := Lib.hid (Kept.alloc (fun _ => False) w (.cells #[.int .u8 k, .int .i64 m, .int .i64 lo] 73))
  have hcA := Lib.hid (fun (W : World) (hk : Kept (fun _ => False) w W) => (hk.cell (p := ⟨rb, 1, none⟩) hlt (fun h => h)).trans hc)
  have HS := Lib.hid (fun (W : World) => reads_str (w := W) (v := .slice none 0 0) (xs := []) (Or.inl ⟨rfl, rfl⟩))
  clear hc hlt
  go_enter Tryd.func48, Tryd.ntmps48
  go_wp2_with fail
  go_quiet ((first | (go_at_call 97; with_reducible exact qz _ (nr_count _ _)) | (go_at_call 98; with_reducible exact qz _ (rr_count rb _ _ (hcA.out _ (KA.out.drewN _))))))
  go_wp2_with fail
  go_ret
  exact ⟨⟨_, rfl⟩, KA.out.drewN _⟩

set_option maxRecDepth 100000 in
set_option maxHeartbeats 1600000 in
theorem ag5 (hc : w.cell? ⟨rb, 1, none⟩ = some (.int .i64 1)) (hk11 : ((k : Int) % 11) = 5) :
    Calls Tryd.prog 48 #[.pointer none, .pointer (some ⟨rb, 0, none⟩), .agg #[.int .u8 k, .int .i64 m, .int .i64 lo]] w fun e w' => (∃ q, e = .returned q) ∧ Kept (fun _ => False) w w' := by
  have hlt := World.block_lt_of_cell? w _ hc
  have KA := Lib.hid (Kept.alloc (fun _ => False) w (.cells #[.int .u8 k, .int .i64 m, .int .i64 lo] 73))
  have hcA := Lib.hid (fun (W : World) (hk : Kept (fun _ => False) w W) => (hk.cell (p := ⟨rb, 1, none⟩) hlt (fun h => h)).trans hc)
  have HS := Lib.hid (fun (W : World) => reads_str (w := W) (v := .slice none 0 0) (xs := []) (Or.inl ⟨rfl, rfl⟩))
  clear hc hlt
  go_enter Tryd.func48, Tryd.ntmps48
  go_wp2_with fail
  refine (nr_flag _).mono ?_
  rintro e w1 ⟨rfl, rfl⟩
  go_wp2_with fail
  refine (rr_flag rb _ (hcA.out _ KA.out)).mono ?_
  rintro e w1 ⟨rfl, rfl⟩
  go_wp2_with fail
  go_ret
  exact ⟨⟨_, rfl⟩, KA.out⟩

set_option maxRecDepth 100000 in
set_option maxHeartbeats 1600000 in
theorem ag10 (hc : w.cell? ⟨rb, 1, none⟩ = some (.int .i64 1)) (hk11 : ((k : Int) % 11) = 10) :
    Calls Tryd.prog 48 #[.pointer none, .pointer (some ⟨rb, 0, none⟩), .agg #[.int .u8 k, .int .i64 m, .int .i64 lo]] w fun e w' => (∃ q, e = .returned q) ∧ Kept (fun _ => False) w w' := by
  have hlt := World.block_lt_of_cell? w _ hc
  have KA := Lib.hid (Kept.alloc (fun _ => False) w (.cells #[.int .u8 k, .int .i64 m, .int .i64 lo] 73))
  have hcA := Lib.hid (fun (W : World) (hk : Kept (fun _ => False) w W) => (hk.cell (p := ⟨rb, 1, none⟩) hlt (fun h => h)).trans hc)
  have HS := Lib.hid (fun (W : World) => reads_str (w := W) (v := .slice none 0 0) (xs := []) (Or.inl ⟨rfl, rfl⟩))
  clear hc hlt
  go_enter Tryd.func48, Tryd.ntmps48
  go_wp2_with fail
  refine (nr_end _).mono ?_
  rintro e w1 ⟨rfl, rfl⟩
  go_wp2_with fail
  refine (rr_end rb _ (hcA.out _ KA.out)).mono ?_
  rintro e w1 ⟨rfl, rfl⟩
  go_wp2_with fail
  go_ret
  exact ⟨⟨_, rfl⟩, KA.out⟩

set_option maxRecDepth 100000 in
set_option maxHeartbeats 1600000 in
theorem ag9 (hc : w.cell? ⟨rb, 1, none⟩ = some (.int .i64 1)) (hk11 : ((k : Int) % 11) = 9) :
    Calls Tryd.prog 48 #[.pointer none, .pointer (some ⟨rb, 0, none⟩), .agg #[.int .u8 k, .int .i64 m, .int .i64 lo]] w fun e w' => (∃ q, e = .returned q) ∧ Kept (fun _ => False) w w' := by
  have hlt := World.block_lt_of_cell? w _ hc
  have KA := Lib.hid (Kept.alloc (fun _ => False) w (.cells #[.int .u8 k, .int .i64 m, .int .i64 lo] 73))
  have hcA := Lib.hid (fun (W : World) (hk : Kept (fun _ => False) w W) => (hk.cell (p := ⟨rb, 1, none⟩) hlt (fun h => h)).trans hc)
  have HS := Lib.hid (fun (W : World) => reads_str (w := W) (v := .slice none 0 0) (xs := []) (Or.inl ⟨rfl, rfl⟩))
  clear hc hlt
  have hcw := hcA.out _ KA.out
  go_enter Tryd.func48, Tryd.ntmps48
  go_wp2_with fail
  refine (nr_fail _ _).mono ?_
  rintro e w1 ⟨rfl, rfl⟩
  go_wp2_with fail
  go_ret
  exact ⟨⟨_, rfl⟩, KA.out⟩

set_option maxRecDepth 100000 in
set_option maxHeartbeats 1600000 in
theorem ag8 (hc : w.cell? ⟨rb, 1, none⟩ = some (.int .i64 1)) (hT : Tz w) (hk11 : ((k : Int) % 11) = 8) :
    Calls Tryd.prog 48 #[.pointer none, .pointer (some ⟨rb, 0, none⟩), .agg #[.int .u8 k, .int .i64 m, .int .i64 lo]] w fun e w' => (∃ q, e = .returned q) ∧ Kept (fun _ => False) w w' := by
  have hlt := World.block_lt_of_cell? w _ hc
  have KA := Lib.hid (Kept.alloc (fun _ => False) w (.cells #[.int .u8 k, .int .i64 m, .int .i64 lo] 73))
  have hcA := Lib.hid (fun (W : World) (hk : Kept (fun _ => False) w W) => (hk.cell (p := ⟨rb, 1, none⟩) hlt (fun h => h)).trans hc)
  have HS := Lib.hid (fun (W : World) => reads_str (w := W) (v := .slice none 0 0) (xs := []) (Or.inl ⟨rfl, rfl⟩))
  have HT := Lib.hid hT
  have hbx : Hid (∀ W, Kept (fun _ => False) (w.alloc (.cells #[.int .u8 k, .int .i64 m, .int .i64 lo] 73)) W → W.cell? ⟨w.heap.size, 1, none⟩ = some (.int .i64 m) ∧ True) := fun W hk => ⟨(hk.cell (p := ⟨w.heap.size, 1, none⟩) (by simp) (fun h => h)).trans (by go_simp), trivial⟩
  clear hc hlt hT
  go_enter Tryd.func48, Tryd.ntmps48
  go_wp2_with fail
  generalize w.alloc (.cells #[.int .u8 k, .int .i64 m, .int .i64 lo] 73) = wA at KA hbx ⊢
  have D0 := Lib.hid ((Kept.refl (fun _ => False) wA).drew)
  refine wp_region_held_drew (S := fun w' => w'.cell? ⟨w.heap.size, 1, none⟩ = some (.int .i64 m) ∧ w'.cell? ⟨rb, 1, none⟩ = some (.int .i64 1)) (by kernel_rfl) ⟨(hbx.out _ D0.out).1, hcA.out _ (KA.out.then D0.out)⟩ (fun _ => ?_)
  refine wpAnyH_take (i := 0) (v := .pointer none) rfl (by kernel_rfl) (by kernel_rfl) (by kernel_rfl) (fun _ _ _ h => h) (Or.inl ⟨by simp [Region.wanted, yielded], fun W hS => by go_simp⟩) ⟨(hbx.out _ D0.out).1, hcA.out _ (KA.out.then D0.out)⟩ ?_
  try (simp only [Act.put, List.getElem_toArray, List.getElem_cons_succ, List.getElem_cons_zero, List.setIfInBounds_toArray, List.set_cons_zero, List.set_cons_succ])
  refine wpAnyH_take (i := 1) (v := .pointer (some ⟨w.heap.size, 1, none⟩)) rfl (by kernel_rfl) (by kernel_rfl) (by kernel_rfl) (fun _ _ _ h => h) (Or.inl ⟨by simp [Region.wanted, yielded], fun W hS => by go_simp⟩) ⟨(hbx.out _ D0.out).1, hcA.out _ (KA.out.then D0.out)⟩ ?_
  try (simp only [Act.put, List.getElem_toArray, List.getElem_cons_succ, List.getElem_cons_zero, List.setIfInBounds_toArray, List.set_cons_zero, List.set_cons_succ])
  refine wpAnyH_take (i := 2) (v := .int .i64 m) rfl (by kernel_rfl) (by kernel_rfl) (by kernel_rfl) (fun _ _ _ h => h) (Or.inl ⟨by simp [Region.wanted, yielded], fun W hS => by have h1 := hS.1; have h2 := hS.2; go_simp⟩) ⟨(hbx.out _ D0.out).1, hcA.out _ (KA.out.then D0.out)⟩ ?_
  try (simp only [Act.put, List.getElem_toArray, List.getElem_cons_succ, List.getElem_cons_zero, List.setIfInBounds_toArray, List.set_cons_zero, List.set_cons_succ])
  refine wpAnyH_take (i := 5) (v := .pointer (some ⟨rb, 0, none⟩)) rfl (by kernel_rfl) (by kernel_rfl) (by kernel_rfl) (fun _ _ _ h => h) (Or.inl ⟨by simp [Region.wanted, yielded], fun W hS => by go_simp⟩) ⟨(hbx.out _ D0.out).1, hcA.out _ (KA.out.then D0.out)⟩ ?_
  try (simp only [Act.put, List.getElem_toArray, List.getElem_cons_succ, List.getElem_cons_zero, List.setIfInBounds_toArray, List.set_cons_zero, List.set_cons_succ])
  refine wpAnyH_take (i := 6) (v := .pointer (some ⟨w.heap.size, 1, none⟩)) rfl (by kernel_rfl) (by kernel_rfl) (by kernel_rfl) (fun _ _ _ h => h) (Or.inl ⟨by simp [Region.wanted, yielded], fun W hS => by go_simp⟩) ⟨(hbx.out _ D0.out).1, hcA.out _ (KA.out.then D0.out)⟩ ?_
  try (simp only [Act.put, List.getElem_toArray, List.getElem_cons_succ, List.getElem_cons_zero, List.setIfInBounds_toArray, List.set_cons_zero, List.set_cons_succ])
  refine wpAnyH_take (i := 7) (v := .int .i64 m) rfl (by kernel_rfl) (by kernel_rfl) (by kernel_rfl) (fun _ _ _ h => h) (Or.inl ⟨by simp [Region.wanted, yielded], fun W hS => by have h1 := hS.1; have h2 := hS.2; go_simp⟩) ⟨(hbx.out _ D0.out).1, hcA.out _ (KA.out.then D0.out)⟩ ?_
  try (simp only [Act.put, List.getElem_toArray, List.getElem_cons_succ, List.getElem_cons_zero, List.setIfInBounds_toArray, List.set_cons_zero, List.set_cons_succ])
  refine wpAnyH_ready (rs := [3]) (by kernel_rfl) (by simp) ?_
  refine AllReadyH.cons (o := _) rfl (fun K hK => ?_) AllReadyH.nil
  try (rw [if_pos (by simp [Region.wanted, yielded])])
  go_simp
  go_at_call 58
  refine (nr_set m wA.drew).mono ?_
  rintro e w1 ⟨rfl, k1⟩; have D1 := Lib.hid (D0.out.then k1); clear k1
  go_wp2_with fail
  refine hK.out _ _ ⟨(hbx.out _ D1.out).1, hcA.out _ (KA.out.then D1.out)⟩ (fun _ => ?_)
  clear hK K
  try (simp only [Act.put, List.getElem_toArray, List.getElem_cons_succ, List.getElem_cons_zero, List.setIfInBounds_toArray, List.set_cons_zero, List.set_cons_succ])
  have hse := setv_none w1
  have HSE := Lib.hid hse
  clear hse
  refine wpAnyH_ready (rs := [4]) (by kernel_rfl) (by simp) ?_
  refine AllReadyH.cons (o := _) rfl (fun K hK => ?_) AllReadyH.nil
  try (rw [if_pos (by simp [Region.wanted, yielded])])
  go_simp
  go_at_call 35
  refine (list_any w1 _ 0 HSE.out (fun e he => Nat.pow_pos (by omega)) (HT.out.kept (KA.out.then D1.out) (fun h => h))).mono ?_
  rintro e w2 ⟨u, rfl, hu, _, k2⟩; have D2 := Lib.hid (D1.out.then k2); clear k2; rw [memS_none] at hu; obtain ⟨ua, uc, rfl⟩ := own_form hu; clear hu
  go_wp2_with fail
  refine hK.out _ _ ⟨(hbx.out _ D2.out).1, hcA.out _ (KA.out.then D2.out)⟩ (fun _ => ?_)
  clear hK K
  try (simp only [Act.put, List.getElem_toArray, List.getElem_cons_succ, List.getElem_cons_zero, List.setIfInBounds_toArray, List.set_cons_zero, List.set_cons_succ])
  refine wpAnyH_ready (rs := [8]) (by kernel_rfl) (by simp) ?_
  refine AllReadyH.cons (o := _) rfl (fun K hK => ?_) AllReadyH.nil
  try (rw [if_pos (by simp [Region.wanted, yielded])])
  go_simp
  go_at_call 99
  refine (rr_set rb m w2 (hcA.out _ (KA.out.then D2.out))).mono ?_
  rintro e w3 ⟨rfl, rfl⟩
  go_wp2_with fail
  refine hK.out _ _ ⟨(hbx.out _ D2.out).1, hcA.out _ (KA.out.then D2.out)⟩ (fun _ => ?_)
  clear hK K
  try (simp only [Act.put, List.getElem_toArray, List.getElem_cons_succ, List.getElem_cons_zero, List.setIfInBounds_toArray, List.set_cons_zero, List.set_cons_succ])
  refine wpAnyH_ready (rs := [9]) (by kernel_rfl) (by simp) ?_
  refine AllReadyH.cons (o := _) rfl (fun K hK => ?_) AllReadyH.nil
  try (rw [if_pos (by simp [Region.wanted, yielded])])
  go_simp
  go_at_call 34
  refine (eqi_nil ua uc w2).mono ?_
  rintro e w3 ⟨rfl, rfl⟩
  go_wp2_with fail
  refine hK.out _ _ ⟨(hbx.out _ D2.out).1, hcA.out _ (KA.out.then D2.out)⟩ (fun _ => ?_)
  clear hK K
  try (simp only [Act.put, List.getElem_toArray, List.getElem_cons_succ, List.getElem_cons_zero, List.setIfInBounds_toArray, List.set_cons_zero, List.set_cons_succ])
  refine wpAnyH_take (i := 10) (v := .bool true) rfl (by kernel_rfl) (by kernel_rfl) (by kernel_rfl) (fun _ _ _ h => h) (Or.inl ⟨by simp [Region.wanted, yielded], fun W hS => by go_simp⟩) ⟨(hbx.out _ D2.out).1, hcA.out _ (KA.out.then D2.out)⟩ ?_
  try (simp only [Act.put, List.getElem_toArray, List.getElem_cons_succ, List.getElem_cons_zero, List.setIfInBounds_toArray, List.set_cons_zero, List.set_cons_succ])
  refine wpAnyH_done (by kernel_rfl) ?_ _
  go_wp2_with fail
  go_ret
  exact ⟨⟨_, rfl⟩, KA.out.then D2.out⟩
end

section
variable (w : World) (k U : Nat) (S : Int) (a : Option Addr) (n c : Nat) (bs : List Nat)

set_option maxRecDepth 100000 in
set_option maxHeartbeats 1600000 in
theorem pn0 (hb : Reads w (.slice a n c) bs) (hby : ∀ x ∈ bs, x < 256) (hU : Hid (U < 18446744073709551616)) (hk7 : ((k : Int) % 7) = 0) :
    Calls Tryd.prog 53 #[.pointer none, .agg #[.int .u8 k, .int .u64 U, .int .i64 S, .slice a n c]] w fun e w' => (∃ q, e = .returned q) ∧ Kept (fun _ => False) w w' := by
  have KA := Lib.hid (Kept.alloc (fun _ => False) w (.cells #[.int .u8 k, .int .u64 U, .int .i64 S, .slice a n c] 78))
  have HB := Lib.hid (hb.kept KA.out (fun _ _ h => h))
  have hcl : (bs.take 300).length ≤ 300 := by simp; omega
  have HBY : Hid (∀ x ∈ bs.take 300, x < 256) := fun x hx => hby x (List.mem_of_mem_take hx)
  clear hb hby
  go_enter Tryd.func53, Tryd.ntmps53
  go_wp2_with fail
  refine (short_any _ _ bs HB.out).mono ?_
  rintro e wA ⟨cv, rfl, hr, ho, rfl⟩
  have HR := Lib.hid hr
  obtain ⟨cva, cvn, cvc, rfl⟩ : ∃ a n c, cv = .slice a n c := by
    rcases hr with ⟨h, _⟩ | ⟨g, off, cap, h, _⟩
    · exact ⟨_, _, _, h⟩
    · exact ⟨_, _, _, h⟩
  clear hr ho
  go_wp2_with fail
  refine (nw_uint _ _).mono ?_
  rintro e w1 ⟨rfl, rfl⟩
  go_wp2_with fail
  refine (put_any U _ hU).mono ?_
  rintro e w2 ⟨q, rfl, hf, hk⟩
  have HK := Lib.hid hk
  clear hf hk
  go_wp2_with fail
  go_ret
  exact ⟨⟨_, rfl⟩, KA.out.then HK.out⟩

set_option maxRecDepth 100000 in
set_option maxHeartbeats 1600000 in
theorem pn1 (hb : Reads w (.slice a n c) bs) (hby : ∀ x ∈ bs, x < 256) (hS : Hid (-9223372036854775808 ≤ S ∧ S < 9223372036854775808)) (hk7 : ((k : Int) % 7) = 1) :
    Calls Tryd.prog 53 #[.pointer none, .agg #[.int .u8 k, .int .u64 U, .int .i64 S, .slice a n c]] w fun e w' => (∃ q, e = .returned q) ∧ Kept (fun _ => False) w w' := by
  have KA := Lib.hid (Kept.alloc (fun _ => False) w (.cells #[.int .u8 k, .int .u64 U, .int .i64 S, .slice a n c] 78))
  have HB := Lib.hid (hb.kept KA.out (fun _ _ h => h))
  have hcl : (bs.take 300).length ≤ 300 := by simp; omega
  have HBY : Hid (∀ x ∈ bs.take 300, x < 256) := fun x hx => hby x (List.mem_of_mem_take hx)
  clear hb hby
  go_enter Tryd.func53, Tryd.ntmps53
  go_wp2_with fail
  refine (short_any _ _ bs HB.out).mono ?_
  rintro e wA ⟨cv, rfl, hr, ho, rfl⟩
  have HR := Lib.hid hr
  obtain ⟨cva, cvn, cvc, rfl⟩ : ∃ a n c, cv = .slice a n c := by
    rcases hr with ⟨h, _⟩ | ⟨g, off, cap, h, _⟩
    · exact ⟨_, _, _, h⟩
    · exact ⟨_, _, _, h⟩
  clear hr ho
  go_wp2_with fail
  refine (nw_int _ _).mono ?_
  rintro e w1 ⟨rfl, rfl⟩
  go_wp2_with fail
  refine (putInt_any S _ hS).mono ?_
  rintro e w2 ⟨q, rfl, hf, hk⟩
  have HK := Lib.hid hk
  clear hf hk
  go_wp2_with fail
  go_ret
  exact ⟨⟨_, rfl⟩, KA.out.then HK.out⟩

set_option maxRecDepth 100000 in
set_option maxHeartbeats 1600000 in
theorem pn2 (hb : Reads w (.slice a n c) bs) (hby : ∀ x ∈ bs, x < 256) (hk7 : ((k : Int) % 7) = 2) :
    Calls Tryd.prog 53 #[.pointer none, .agg #[.int .u8 k, .int .u64 U, .int .i64 S, .slice a n c]] w fun e w' => (∃ q, e = .returned q) ∧ Kept (fun _ => False) w w' := by
  have KA := Lib.hid (Kept.alloc (fun _ => False) w (.cells #[.int .u8 k, .int .u64 U, .int .i64 S, .slice a n c] 78))
  have HB := Lib.hid (hb.kept KA.out (fun _ _ h => h))
  have hcl : (bs.take 300).length ≤ 300 := by simp; omega
  have HBY : Hid (∀ x ∈ bs.take 300, x < 256) := fun x hx => hby x (List.mem_of_mem_take hx)
  clear hb hby
  go_enter Tryd.func53, Tryd.ntmps53
  go_wp2_with fail
  refine (short_any _ _ bs HB.out).mono ?_
  rintro e wA ⟨cv, rfl, hr, ho, rfl⟩
  have HR := Lib.hid hr
  obtain ⟨cva, cvn, cvc, rfl⟩ : ∃ a n c, cv = .slice a n c := by
    rcases hr with ⟨h, _⟩ | ⟨g, off, cap, h, _⟩
    · exact ⟨_, _, _, h⟩
    · exact ⟨_, _, _, h⟩
  clear hr ho
  have hstr := reads_str HR.out
  generalize strOfNums ((bs.take 300).map fun n : Nat => (n : Int)) = s at hstr
  go_wp2_with fail
  refine (nw_string _ _).mono ?_
  rintro e w1 ⟨rfl, rfl⟩
  go_wp2_with fail
  refine (putbytes_any _ (bs.take 300) _ HR.out (by omega)).mono ?_
  rintro e w2 ⟨q, rfl, hf, hk⟩
  have HK := Lib.hid hk
  clear hf hk
  go_wp2_with fail
  go_ret
  exact ⟨⟨_, rfl⟩, KA.out.then HK.out⟩

set_option maxRecDepth 100000 in
set_option maxHeartbeats 1600000 in
theorem pn3 (hb : Reads w (.slice a n c) bs) (hby : ∀ x ∈ bs, x < 256) (hk7 : ((k : Int) % 7) = 3) :
    Calls Tryd.prog 53 #[.pointer none, .agg #[.int .u8 k, .int .u64 U, .int .i64 S, .slice a n c]] w fun e w' => (∃ q, e = .returned q) ∧ Kept (fun _ => False) w w' := by
  have KA := Lib.hid (Kept.alloc (fun _ => False) w (.cells #[.int .u8 k, .int .u64 U, .int .i64 S, .slice a n c] 78))
  have HB := Lib.hid (hb.kept KA.out (fun _ _ h => h))
  have hcl : (bs.take 300).length ≤ 300 := by simp; omega
  have HBY : Hid (∀ x ∈ bs.take 300, x < 256) := fun x hx => hby x (List.mem_of_mem_take hx)
  clear hb hby
  go_enter Tryd.func53, Tryd.ntmps53
  go_wp2_with fail
  refine (short_any _ _ bs HB.out).mono ?_
  rintro e wA ⟨cv, rfl, hr, ho, rfl⟩
  have HR := Lib.hid hr
  obtain ⟨cva, cvn, cvc, rfl⟩ : ∃ a n c, cv = .slice a n c := by
    rcases hr with ⟨h, _⟩ | ⟨g, off, cap, h, _⟩
    · exact ⟨_, _, _, h⟩
    · exact ⟨_, _, _, h⟩
  clear hr ho
  go_wp2_with fail
  refine (nw_bytes _ _ _ _).mono ?_
  rintro e w1 ⟨rfl, rfl⟩
  go_wp2_with fail
  refine (putbytes_any _ (bs.take 300) _ HR.out (by omega)).mono ?_
  rintro e w2 ⟨q, rfl, hf, hk⟩
  have HK := Lib.hid hk
  clear hf hk
  go_wp2_with fail
  go_ret
  exact ⟨⟨_, rfl⟩, KA.out.then HK.out⟩

set_option maxRecDepth 100000 in
set_option maxHeartbeats 1600000 in
theorem pn4t (hb : Reads w (.slice a n c) bs) (hby : ∀ x ∈ bs, x < 256) (hr2 : (U : Int) % 2 = 1) (hk7 : ((k : Int) % 7) = 4) :
    Calls Tryd.prog 53 #[.pointer none, .agg #[.int .u8 k, .int .u64 U, .int .i64 S, .slice a n c]] w fun e w' => (∃ q, e = .returned q) ∧ Kept (fun _ => False) w w' := by
  have KA := Lib.hid (Kept.alloc (fun _ => False) w (.cells #[.int .u8 k, .int .u64 U, .int .i64 S, .slice a n c] 78))
  have HB := Lib.hid (hb.kept KA.out (fun _ _ h => h))
  have hcl : (bs.take 300).length ≤ 300 := by simp; omega
  have HBY : Hid (∀ x ∈ bs.take 300, x < 256) := fun x hx => hby x (List.mem_of_mem_take hx)
  clear hb hby
  go_enter Tryd.func53, Tryd.ntmps53
  go_wp2_with fail
  refine (short_any _ _ bs HB.out).mono ?_
  rintro e wA ⟨cv, rfl, hr, ho, rfl⟩
  have HR := Lib.hid hr
  obtain ⟨cva, cvn, cvc, rfl⟩ : ∃ a n c, cv = .slice a n c := by
    rcases hr with ⟨h, _⟩ | ⟨g, off, cap, h, _⟩
    · exact ⟨_, _, _, h⟩
    · exact ⟨_, _, _, h⟩
  clear hr ho
  go_wp2_with fail
  refine (nw_flag _ _).mono ?_
  rintro e w1 ⟨rfl, rfl⟩
  go_wp2_with fail
  refine (putflag_any true _).mono ?_
  rintro e w2 ⟨q, rfl, hf, hk⟩
  have HK := Lib.hid hk
  clear hf hk
  go_wp2_with fail
  go_ret
  exact ⟨⟨_, rfl⟩, KA.out.then HK.out⟩

set_option maxRecDepth 100000 in
set_option maxHeartbeats 1600000 in
theorem pn4f (hb : Reads w (.slice a n c) bs) (hby : ∀ x ∈ bs, x < 256) (hr2 : (U : Int) % 2 = 0) (hk7 : ((k : Int) % 7) = 4) :
    Calls Tryd.prog 53 #[.pointer none, .agg #[.int .u8 k, .int .u64 U, .int .i64 S, .slice a n c]] w fun e w' => (∃ q, e = .returned q) ∧ Kept (fun _ => False) w w' := by
  have KA := Lib.hid (Kept.alloc (fun _ => False) w (.cells #[.int .u8 k, .int .u64 U, .int .i64 S, .slice a n c] 78))
  have HB := Lib.hid (hb.kept KA.out (fun _ _ h => h))
  have hcl : (bs.take 300).length ≤ 300 := by simp; omega
  have HBY : Hid (∀ x ∈ bs.take 300, x < 256) := fun x hx => hby x (List.mem_of_mem_take hx)
  clear hb hby
  go_enter Tryd.func53, Tryd.ntmps53
  go_wp2_with fail
  refine (short_any _ _ bs HB.out).mono ?_
  rintro e wA ⟨cv, rfl, hr, ho, rfl⟩
  have HR := Lib.hid hr
  obtain ⟨cva, cvn, cvc, rfl⟩ : ∃ a n c, cv = .slice a n c := by
    rcases hr with ⟨h, _⟩ | ⟨g, off, cap, h, _⟩
    · exact ⟨_, _, _, h⟩
    · exact ⟨_, _, _, h⟩
  clear hr ho
  go_wp2_with fail
  refine (nw_flag _ _).mono ?_
  rintro e w1 ⟨rfl, rfl⟩
  go_wp2_with fail
  refine (putflag_any false _).mono ?_
  rintro e w2 ⟨q, rfl, hf, hk⟩
  have HK := Lib.hid hk
  clear hf hk
  go_wp2_with fail
  go_ret
  exact ⟨⟨_, rfl⟩, KA.out.then HK.out⟩

set_option maxRecDepth 100000 in
set_option maxHeartbeats 1600000 in
theorem pn5 (hb : Reads w (.slice a n c) bs) (hby : ∀ x ∈ bs, x < 256) (hk7 : ((k : Int) % 7) = 5) :
    Calls Tryd.prog 53 #[.pointer none, .agg #[.int .u8 k, .int .u64 U, .int .i64 S, .slice a n c]] w fun e w' => (∃ q, e = .returned q) ∧ Kept (fun _ => False) w w' := by
  have KA := Lib.hid (Kept.alloc (fun _ => False) w (.cells #[.int .u8 k, .int .u64 U, .int .i64 S, .slice a n c] 78))
  have HB := Lib.hid (hb.kept KA.out (fun _ _ h => h))
  have hcl : (bs.take 300).length ≤ 300 := by simp; omega
  have HBY : Hid (∀ x ∈ bs.take 300, x < 256) := fun x hx => hby x (List.mem_of_mem_take hx)
  clear hb hby
  go_enter Tryd.func53, Tryd.ntmps53
  go_wp2_with fail
  refine (short_any _ _ bs HB.out).mono ?_
  rintro e wA ⟨cv, rfl, hr, ho, rfl⟩
  have HR := Lib.hid hr
  obtain ⟨cva, cvn, cvc, rfl⟩ : ∃ a n c, cv = .slice a n c := by
    rcases hr with ⟨h, _⟩ | ⟨g, off, cap, h, _⟩
    · exact ⟨_, _, _, h⟩
    · exact ⟨_, _, _, h⟩
  clear hr ho
  go_wp2_with fail
  refine (nw_raw _ _).mono ?_
  rintro e w1 ⟨rfl, rfl⟩
  go_wp2_with fail
  go_ret
  exact ⟨⟨_, rfl⟩, KA.out⟩

set_option maxRecDepth 100000 in
set_option maxHeartbeats 1600000 in
theorem pn6 (hb : Reads w (.slice a n c) bs) (hby : ∀ x ∈ bs, x < 256) (hk7 : ((k : Int) % 7) = 6) :
    Calls Tryd.prog 53 #[.pointer none, .agg #[.int .u8 k, .int .u64 U, .int .i64 S, .slice a n c]] w fun e w' => (∃ q, e = .returned q) ∧ Kept (fun _ => False) w w' := by
  have KA := Lib.hid (Kept.alloc (fun _ => False) w (.cells #[.int .u8 k, .int .u64 U, .int .i64 S, .slice a n c] 78))
  have HB := Lib.hid (hb.kept KA.out (fun _ _ h => h))
  have hcl : (bs.take 300).length ≤ 300 := by simp; omega
  have HBY : Hid (∀ x ∈ bs.take 300, x < 256) := fun x hx => hby x (List.mem_of_mem_take hx)
  clear hb hby
  go_enter Tryd.func53, Tryd.ntmps53
  go_wp2_with fail
  refine (short_any _ _ bs HB.out).mono ?_
  rintro e wA ⟨cv, rfl, hr, ho, rfl⟩
  have HR := Lib.hid hr
  obtain ⟨cva, cvn, cvc, rfl⟩ : ∃ a n c, cv = .slice a n c := by
    rcases hr with ⟨h, _⟩ | ⟨g, off, cap, h, _⟩
    · exact ⟨_, _, _, h⟩
    · exact ⟨_, _, _, h⟩
  clear hr ho
  have HIN := Lib.hid (membersOf_in HBY.out)
  go_wp2_with fail
  refine (members_any _ _ _ HR.out HBY.out).mono ?_
  rintro e w1 ⟨lv, rfl, hl1, _, hk1⟩
  go_wp2_with fail
  refine (of_any w1 lv (membersOf (bs.take 300)) hl1).mono ?_
  rintro e w2 ⟨sv, rfl, hs2, _, hk2⟩
  have HR2 := Lib.hid (HR.out.kept (hk1.then hk2) (fun _ _ h => h))
  have HK2 := Lib.hid (hk1.then hk2)
  have HS2 := Lib.hid hs2
  clear hl1 hk1 hk2 hs2
  go_wp2_with fail
  refine (nw_set sv _ (maskOf_small _) w2 HS2.out).mono ?_
  rintro e w3 ⟨rfl, hk3⟩
  have HR3 := Lib.hid (HR2.out.kept hk3 (fun _ _ h => h))
  have HK3 := Lib.hid (HK2.out.then hk3)
  clear hk3
  go_wp2_with fail
  refine (members_any w3 _ _ HR3.out HBY.out).mono ?_
  rintro e w4 ⟨lv4, rfl, hl4, _, hk4⟩
  have HL4 := Lib.hid hl4
  have HK4 := Lib.hid (HK3.out.then hk4)
  clear hl4 hk4
  go_wp2_with fail
  refine (putset_any w4 lv4 (membersOf (bs.take 300)) HL4.out HIN.out).mono ?_
  rintro e w5 ⟨q, rfl, hf, hk5⟩
  have HK := Lib.hid (HK4.out.then hk5)
  clear hf hk5
  go_wp2_with fail
  go_ret
  exact ⟨⟨_, rfl⟩, KA.out.then HK.out⟩
end
end Go.Proofs.YtljjhdfackicpaaDoor
