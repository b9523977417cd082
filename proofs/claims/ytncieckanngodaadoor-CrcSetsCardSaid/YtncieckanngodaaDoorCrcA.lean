/-
  arbaclaw04.awake: the chapter's examples hold.
-/
import Derived.Test.YtncieckanngodaaDoorCrcN
import Derived.Lib.SlBytesConst
namespace Go.Proofs.YtncieckanngodaaDoor
open Go.RowKit

/-- A block of cells that was laid reads as its bytes. -/
theorem readsLit (w : World) (cs : Array Value) (T : TypeId) (fr : Nat × Nat) (xs : List Nat) (n : Nat) (hn : n = xs.length) (hcs : cs.toList = bv xs) (hm : xs.length ≤ maxLen) :
    Reads (w.alloc (.cells cs T fr)) (.slice (some ⟨w.heap.size, 0, none⟩) n n) xs := by
  subst hn
  refine Or.inr ⟨w.heap.size, 0, xs.length, rfl, Nat.le_refl _, hm, by simp, fun i hi => ?_⟩
  rw [Nat.zero_add, cell_of_row _ w.heap.size i cs T fr (heap_alloc_new w _), ← Array.getElem?_toList, hcs, bv_at8 xs i hi]

theorem frame_nil : frameS [] = [0, 0, 0, 0, 199, 75, 103, 72] := by decide +kernel
theorem next_nil : nextS [0, 0, 0, 0, 199, 75, 103, 72] = 8 := by decide +kernel
theorem pay_nil : ([0, 0, 0, 0, 199, 75, 103, 72].drop 8).take (de4 [0, 0, 0, 0, 199, 75, 103, 72]) = [] := by decide +kernel
theorem crc_digits : crcS [49, 50, 51, 52, 53, 54, 55, 56, 57] = 3808858755 := by decide +kernel
theorem crc_zero : crcS [0] = 1383945041 := by decide +kernel

set_option maxRecDepth 100000 in
set_option maxHeartbeats 1600000 in
theorem awake4_any (w : World) (hT : Tab w) : Calls Tryd.prog 23 #[] w fun e w' => e = .returned (.bool true) ∧ Kept (fun _ => False) w w' := by
  have HT := Lib.hid hT; clear hT
  have kc := fun (w : World) (C : Array Value) (n c : Nat) => Lib.run_convert_bytes_const (P := Tryd.prog) w 26 5 C n c Tryd.underlying26 Tryd.underlying5
  go_enter Tryd.func23, Tryd.ntmps23
  go_wp2_with fail
  refine (frame_any _ [] w (Or.inl ⟨rfl, rfl⟩) (by simp) (by simp) HT.out).mono ?_
  rw [frame_nil]
  rintro e w1 ⟨v1, rfl, hf1, hk1⟩
  obtain ⟨a1, c1, hv1⟩ := hf1.reads.form
  have hr1 := hf1.reads
  rw [hv1] at hr1
  have HR1 := Lib.hid hr1
  clear hf1
  subst hv1
  go_wp2_with fail
  refine (next_any _ [0, 0, 0, 0, 199, 75, 103, 72] w1 HR1.out (by decide) (HT.out.kept hk1 (fun h => h))).mono ?_
  rintro e w2 (⟨h, _⟩ | ⟨_, v2, rfl, hf2, hk2⟩)
  · rw [next_nil] at h; cases h
  rw [next_nil]
  rw [pay_nil] at hf2
  obtain ⟨a2, c2, hv2⟩ := hf2.reads.form
  clear hf2
  subst hv2
  have hk02 := hk1.then hk2
  have hr2 := HR1.out.kept hk2 (fun _ _ h => h)
  have HR2 := Lib.hid hr2; clear hr2 hk1 hk2
  go_wp2_with fail
  refine (sum_any _ [49, 50, 51, 52, 53, 54, 55, 56, 57] _ (readsLit w2 _ _ (9, 10) _ 9 rfl rfl (by simp [maxLen])) (by decide) ((HT.out.kept hk02 (fun h => h)).kept (Kept.alloc (fun _ => False) _ _) (fun h => h))).mono ?_
  rw [crc_digits]
  rintro e w3 ⟨rfl, hw3⟩
  have hk23 : Kept (fun _ => False) w2 w3 := by rw [← hw3]; exact Kept.alloc _ _ _
  clear hw3
  have hk03 := hk02.then hk23
  have hr3 := HR2.out.kept hk23 (fun _ _ h => h)
  go_wp2_with fail
  refine (sum_any _ [0] _ (readsLit w3 _ _ (0, 0) _ 1 rfl rfl (by simp [maxLen])) (by decide) ((HT.out.kept hk03 (fun h => h)).kept (Kept.alloc (fun _ => False) _ _) (fun h => h))).mono ?_
  rw [crc_zero]
  rintro e w4 ⟨rfl, hw4⟩
  have hk34 : Kept (fun _ => False) w3 w4 := by rw [← hw4]; exact Kept.alloc _ _ _
  clear hw4
  have hk04 := hk03.then hk34
  have hr4 := hr3.kept hk34 (fun _ _ h => h)
  go_wp2_with fail
  refine (equalb_any _ _ _ [0, 0, 0, 0, 199, 75, 103, 72] [0, 0, 0, 0, 199, 75, 103, 72] (hr4.kept (Kept.alloc (fun _ => False) _ _) (fun _ _ h => h)) (readsLit w4 _ _ (0, 0) _ 8 rfl rfl (by simp [maxLen]))).mono ?_
  rw [show decide ([0, 0, 0, 0, 199, 75, 103, 72] = [0, 0, 0, 0, 199, 75, 103, 72]) = true by decide]
  rintro e w5 ⟨rfl, hk5⟩
  have hk45 : Kept (fun _ => False) w4 w5 := (Kept.alloc _ _ _).then hk5
  clear hk5
  go_wp2_with fail
  go_ret
  exact ⟨rfl, hk04.then hk45⟩
end Go.Proofs.YtncieckanngodaaDoor
