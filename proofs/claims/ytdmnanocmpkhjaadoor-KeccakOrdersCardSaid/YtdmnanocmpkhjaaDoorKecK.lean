/-
  arbaclaw03.awake: the chapter's examples hold.
-/
import Derived.Test.YtdmnanocmpkhjaaDoorKecN
import Derived.Test.YtdmnanocmpkhjaaDoorKecE
import Derived.Test.YtdmnanocmpkhjaaDoorKecX
import Derived.Lib.SlBytesConst
namespace Go.Proofs.YtdmnanocmpkhjaaDoor
open Go.RowKit

/-- A block of cells that was laid reads as its bytes. -/
theorem readsLitK (w : World) (cs : Array Value) (T : TypeId) (fr : Nat × Nat) (xs : List Nat) (n : Nat) (hn : n = xs.length) (hcs : cs.toList = bv xs) (hm : xs.length ≤ maxLen) :
    Reads (w.alloc (.cells cs T fr)) (.slice (some ⟨w.heap.size, 0, none⟩) n n) xs := by
  subst hn
  refine Or.inr ⟨w.heap.size, 0, xs.length, rfl, Nat.le_refl _, hm, by simp, fun i hi => ?_⟩
  rw [Nat.zero_add, cell_of_row _ w.heap.size i cs T fr (heap_alloc_new w _), ← Array.getElem?_toList, hcs, bv_at8 xs i hi]

theorem txt0 : strOfNums ((texL (digS [])).map fun n : Nat => (n : Int)) = ⟨#[97, 55, 102, 102, 99, 54, 102, 56, 98, 102, 49, 101, 100, 55, 54, 54, 53, 49, 99, 49, 52, 55, 53, 54, 97, 48, 54, 49, 100, 54, 54, 50, 102, 53, 56, 48, 102, 102, 52, 100, 101, 52, 51, 98, 52, 57, 102, 97, 56, 50, 100, 56, 48, 97, 52, 98, 56, 48, 102, 56, 52, 51, 52, 97]⟩ := by
  rw [e0_sum]; kernel_rfl
theorem txt3 : strOfNums ((texL (digS [97, 98, 99])).map fun n : Nat => (n : Int)) = ⟨#[51, 97, 57, 56, 53, 100, 97, 55, 52, 102, 101, 50, 50, 53, 98, 50, 48, 52, 53, 99, 49, 55, 50, 100, 54, 98, 100, 51, 57, 48, 98, 100, 56, 53, 53, 102, 48, 56, 54, 101, 51, 101, 57, 100, 53, 50, 53, 98, 52, 54, 98, 102, 101, 50, 52, 53, 49, 49, 52, 51, 49, 53, 51, 50]⟩ := by
  rw [e3_sum]; kernel_rfl
theorem digS_length (xs : List Nat) : (digS xs).length = 32 := dig_length _
theorem digS_lt (xs : List Nat) : ∀ x ∈ digS xs, x < 256 := dig_lt _

set_option maxRecDepth 100000 in
set_option maxHeartbeats 1600000 in
theorem awake3_any (w : World) (hT : KTab w) : Calls Tryd.prog 4 #[] w fun e w' => e = .returned (.bool true) ∧ Kept (fun _ => False) w w' := by
  have HT := Lib.hid hT; clear hT
  have kc := fun (w : World) (C : Array Value) (n c : Nat) => Lib.run_convert_bytes_const (P := Tryd.prog) w 26 5 C n c Tryd.underlying26 Tryd.underlying5
  go_enter Tryd.func4, Tryd.ntmps4
  go_wp2_with fail
  refine (ksum_any w _ [] (Or.inl ⟨rfl, rfl⟩) (by simp) HT.out (by simp)).mono ?_
  rintro e w1 ⟨rfl, hk1⟩
  have t0 := txt0
  have l0 := digS_length []
  have b0 := digS_lt []
  generalize digS [] = d0 at *
  go_wp2_with fail
  refine (text_any w1 d0 l0 b0).mono ?_
  rw [t0]
  rintro e w2 ⟨rfl, hk2⟩
  have hk02 := hk1.then hk2
  clear t0 l0 b0 hk1 hk2
  go_wp2_with fail
  refine (ksum_any _ _ [97, 98, 99] (readsLitK w2 _ _ (3, 4) _ 3 rfl rfl (by simp [maxLen])) (by decide) ((HT.out.kept hk02 (fun _ _ h => h)).kept (Kept.alloc (fun _ => False) _ _) (fun _ _ h => h)) (by simp)).mono ?_
  rintro e w3 ⟨rfl, hk3⟩
  have hk23 : Kept (fun _ => False) w2 w3 := (Kept.alloc _ _ _).then hk3
  have t3 := txt3
  have l3 := digS_length [97, 98, 99]
  have b3 := digS_lt [97, 98, 99]
  generalize digS [97, 98, 99] = d3 at *
  clear hk3
  go_wp2_with fail
  refine (text_any w3 d3 l3 b3).mono ?_
  rw [t3]
  rintro e w4 ⟨rfl, hk4⟩
  have hk04 := (hk02.then hk23).then hk4
  clear t3 l3 b3 hk4 hk23 hk02
  go_wp2_with fail
  go_ret
  exact ⟨rfl, hk04⟩
end Go.Proofs.YtdmnanocmpkhjaaDoor
