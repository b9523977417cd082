/-
  arbaclaw01.BitsMakes: the walk.
-/
import Derived.Test.YteaagllpkcpedaaDoorBAw
import Derived.Test.YteaagllpkcpedaaDoorBIs
import Derived.Test.YteaagllpkcpedaaDoorBRv
namespace Go.Proofs.YteaagllpkcpedaaDoor
open Go.RowKit

set_option maxRecDepth 100000 in
set_option maxHeartbeats 3200000 in
theorem makes_law (w : World) (v : Value) (xs : List Int) (n : Int) (h : Ints w v xs) (hL : Libs w) :
    Calls Tryd.prog 3 #[v, .int .i64 n] w fun e w' => e = .returned (.bool true) ∧ Kept (fun _ => False) w w' := by
  have HL := Lib.hid hL; have HI := Lib.hid h
  clear hL h
  go_enter Tryd.func3, Tryd.ntmps3
  go_wp2_with fail
  refine (aw_any w HL.out).mono ?_
  rintro e w1 ⟨rfl, k1⟩
  have K1 := Lib.hid k1
  clear k1
  go_wp2_with fail
  refine (few_any _ _ xs (HI.out.kept K1.out (fun _ _ h => h))).mono ?_
  rintro e w2 ⟨u, rfl, hu, rfl⟩
  have hxl : (xs.take 60).length ≤ 5000 := by simp; omega
  have HX := Lib.hid hxl
  have KA := Lib.hid (Kept.alloc (fun _ => False) w1 (.cells #[.int .u64 0, .slice none 0 0] 28))
  have HB : Hid (∀ W, Kept (fun _ => False) (w1.alloc (.cells #[.int .u64 0, .slice none 0 0] 28)) W → W.cell? ⟨w1.heap.size, 0, none⟩ = some (.int .u64 ((0 : Nat) : Int)) ∧ W.cell? ⟨w1.heap.size, 1, none⟩ = some (.slice none 0 0)) := fun W hk => ⟨(box_cells hk (fun h => h)).1, (box_cells hk (fun h => h)).2.1⟩
  have HU := Lib.hid (hu.kept KA.out (fun _ _ h => h))
  clear hu hxl
  generalize xs.take 60 = X at HU HX
  go_wp2_with fail
  refine (of_any _ _ X HU.out).mono ?_
  rintro e w3 ⟨v3, rfl, hs3, -, k3⟩
  have HS3 := Lib.hid hs3
  have K3 := Lib.hid k3
  clear hs3 k3
  go_wp2_with fail
  refine (rof_any _ _ X (HU.out.kept K3.out (fun _ _ h => h)) HX.out).mono ?_
  rintro e w4 ⟨u4, rfl, hu4, k4⟩
  rw [ofL_mask] at hu4
  have HS4 := Lib.hid (HS3.out.onC k4)
  have HU4 := Lib.hid hu4.ints
  have K4 := Lib.hid (K3.out.then k4)
  clear hu4 k4 HS3
  go_wp2_with fail
  refine (is_any _ _ _ (maskOf X) HS4.out (maskOf_small _) HU4.out (HL.out.kept ((K1.out.then KA.out).then K4.out)).tz).mono ?_
  rintro e w5 ⟨rfl, k5⟩
  have K5 := Lib.hid (K4.out.then k5)
  clear k5 HS4 HU4
  go_wp2_with fail
  refine (below_any _ n).mono ?_
  rintro e w6 ⟨v6, rfl, hs6, -, k6⟩
  have HS6 := Lib.hid hs6
  have K6 := Lib.hid (K5.out.then k6)
  clear hs6 k6
  go_wp2_with fail
  refine (rbelow_any _ n).mono ?_
  rintro e w7 ⟨u7, rfl, hu7, k7⟩
  have HS7 := Lib.hid (HS6.out.onC k7)
  have HU7 := Lib.hid hu7.ints
  have K7 := Lib.hid (K6.out.then k7)
  clear hu7 k7 HS6
  go_wp2_with fail
  refine (is_any _ _ _ _ HS7.out (ones_small _ (clampN_le n)) HU7.out (HL.out.kept ((K1.out.then KA.out).then K7.out)).tz).mono ?_
  rintro e w8 ⟨rfl, k8⟩
  have K8 := Lib.hid (K7.out.then k8)
  obtain ⟨b0, b1⟩ := HB.out _ K8.out
  clear k8 HS7 HU7
  go_wp2_with fail
  refine (is_any _ _ _ 0 (setv_none _) (fun e he => Nat.pow_pos (by omega)) (Or.inl ⟨rfl, memM_zero _⟩) (HL.out.kept ((K1.out.then KA.out).then K8.out)).tz).mono ?_
  rintro e w9 ⟨rfl, k9⟩
  have K9 := Lib.hid ((K1.out.then KA.out).then (K8.out.then k9))
  clear k9
  go_wp2_with fail
  go_ret
  exact ⟨by simp, K9.out⟩
end Go.Proofs.YteaagllpkcpedaaDoor
