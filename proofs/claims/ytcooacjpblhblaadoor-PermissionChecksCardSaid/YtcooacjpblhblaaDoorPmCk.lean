/-
  PermissionChecks returns true.
-/
import Derived.Test.YtcooacjpblhblaaDoorPmMk
import Derived.Test.YtcooacjpblhblaaDoorPmAw
import Derived.Test.YtcooacjpblhblaaDoorPmW
namespace Go.Proofs.YtcooacjpblhblaaDoor
open Go.RowKit
set_option linter.unusedSimpArgs false
set_option linter.unusedVariables false

set_option maxRecDepth 100000 in
set_option maxHeartbeats 3200000 in
theorem checks11_any (v0 : Value) (r0 : RawP) (s t : ByteArray) (B : Nat) (w : World) (h0 : RawIn w v0 r0 B) (hs : s.size ≤ 9223372036854775807) (ht : t.size ≤ 9223372036854775807) :
    Calls Tryd.prog 3 #[v0, .string s, .string t] w fun e w' => e = .returned (.bool true) ∧ Kept (fun _ => False) w w' := by
  have HM0 := Lib.hid (fun W (hk : Kept (fun _ => False) w W) => make11_any v0 r0 B W (h0.kept hk (fun _ _ h => h)))
  have hsz := per_size r0
  obtain ⟨nv0, rfl, _⟩ := h0
  obtain ⟨n0, xs0, d0⟩ := r0
  simp only at HM0 ⊢
  obtain ⟨m, hm⟩ : ∃ m, m = Nat.min s.size 20 := ⟨_, rfl⟩
  obtain ⟨k, hk⟩ : ∃ k, k = Nat.min t.size 60 := ⟨_, rfl⟩
  have hm1 : m ≤ s.size := by rw [hm]; exact Nat.min_le_left _ _
  have hk1 : k ≤ t.size := by rw [hk]; exact Nat.min_le_left _ _
  have hk2 : k ≤ 60 := by rw [hk]; exact Nat.min_le_right _ _
  have hmi : min (s.size : Int) 20 = (m : Int) := by
    rcases Nat.lt_or_ge 20 s.size with h | h
    · have : m = 20 := by rw [hm]; exact Nat.min_eq_right (by omega)
      omega
    · have : m = s.size := by rw [hm]; exact Nat.min_eq_left h
      omega
  have hki : min (t.size : Int) 60 = (k : Int) := by
    rcases Nat.lt_or_ge 60 t.size with h | h
    · have : k = 60 := by rw [hk]; exact Nat.min_eq_right (by omega)
      omega
    · have : k = t.size := by rw [hk]; exact Nat.min_eq_left h
      omega
  have hm3 : (m : Int) ≤ (s.size : Int) := by omega
  have hm0 : (0 : Int) ≤ (m : Int) := by omega
  have hk3 : (k : Int) ≤ (t.size : Int) := by omega
  have hk0 : (0 : Int) ≤ (k : Int) := by omega
  have hz : (t.extract 0 k).size ≤ 60 := by rw [ByteArray.size_extract]; omega
  obtain ⟨y, hy⟩ : ∃ y, y = s.extract 0 m := ⟨_, rfl⟩
  obtain ⟨z, hzz⟩ : ∃ z, z = t.extract 0 k := ⟨_, rfl⟩
  rw [← hzz] at hz
  have HY := Lib.hid hy; have HZZ := Lib.hid hzz
  generalize RawP.per ⟨n0, xs0, d0⟩ = x at *
  have HC1 := Lib.hid (fun W => pcheck_any x (by omega) W)
  have HR1 := Lib.hid (fun W => rcheck_any x (by omega) W)
  have HC2 := Lib.hid (fun W => pcheck_any ⟨y, z, d0⟩ (show z.size ≤ 1000000 by omega) W)
  have HR2 := Lib.hid (fun W => rcheck_any ⟨y, z, d0⟩ (show z.size ≤ 100000 by omega) W)
  generalize chkP x = C1 at *
  generalize chkP ⟨y, z, d0⟩ = C2 at *
  obtain ⟨a, p, d⟩ := x
  unfold perV at *
  simp only at HM0 HC1 HC2 HR1 HR2
  have HZ0 := Lib.hid (Zb.new w 24 (.int .u8 n0) nv0 (.bool d0))
  have HK := Lib.hid (Kept.alloc (fun _ => False) w (.cells #[.int .u8 n0, nv0, .bool d0] 24))
  clear hsz hs ht hm hk hm1 hk1 hk2 hz hy hzz
  go_enter Tryd.func3, Tryd.ntmps3
  go_wp2_with fail
  refine (awake11_any _).mono ?_
  generalize w.alloc (.cells #[.int .u8 n0, nv0, .bool d0] 24) = W1 at *
  rintro e w2 ⟨rfl, k2⟩
  obtain ⟨⟨c0, c1, c2⟩, _⟩ := (HZ0.out.kept k2 (fun h => h)).cells
  have K2 := Lib.hid (HK.out.then k2)
  have Z1 := Lib.hid (HZ0.out.kept k2 (fun h => h))
  clear k2 HK HZ0
  go_wp2_with fail
  refine (HM0.out _ K2.out).mono ?_
  rintro e w3 ⟨rfl, k3⟩
  have K3 := Lib.hid (K2.out.then k3)
  have Z3 := Lib.hid (Z1.out.kept k3 (fun h => h))
  have B1 := Lib.hid ((Bx.new w3 a p d 27).stay (Kept.alloc (fun _ => False) _ (.cells #[.string a, .string p, .bool d] 28)))
  have B2 := Lib.hid (Bx.new (w3.alloc (.cells #[.string a, .string p, .bool d] 27)) a p d 28)
  have e1 : (w3.alloc (.cells #[.string a, .string p, .bool d] 27)).heap.size = w3.heap.size + 1 := by simp
  rw [e1] at B2
  have e2 : ((w3.alloc (.cells #[.string a, .string p, .bool d] 27)).alloc (.cells #[.string a, .string p, .bool d] 28)).heap.size = w3.heap.size + 1 + 1 := by simp
  have KA := (Kept.alloc (fun _ => False) w3 (.cells #[.string a, .string p, .bool d] 27)).then (Kept.alloc (fun _ => False) _ (.cells #[.string a, .string p, .bool d] 28))
  have K4 := Lib.hid (K3.out.then KA)
  have Z4 := Lib.hid (Z3.out.kept KA (fun h => h))
  clear k3 c0 c1 c2 KA e1 K2 Z1 Z3 K3 HM0
  go_wp2_with fail
  generalize (w3.alloc (.cells #[.string a, .string p, .bool d] 27)).alloc (.cells #[.string a, .string p, .bool d] 28) = W4 at *
  generalize w3.heap.size = P at *
  obtain ⟨⟨c0, c1, c2⟩, _⟩ := Z4.out.cells
  have hlt := World.block_lt_of_cell? _ _ c0
  simp only at hlt
  rw [e2] at hlt
  have hne : ¬ w.heap.size = P + 1 + 1 := by omega
  have hne2 : ¬ P + 1 + 1 = w.heap.size := by omega
  go_region
  rw [← HY.out, ← HZZ.out]
  have B3 := Lib.hid ((Bx.new W4 y z d0 27).stay ((Kept.refl (fun _ => False) _).drew))
  rw [e2] at B3
  have KB := (Kept.alloc (fun _ => False) W4 (.cells #[.string y, .string z, .bool d0] 27)).drew
  have K5 := Lib.hid (K4.out.then KB)
  replace B1 := Lib.hid (B1.out.stay KB)
  replace B2 := Lib.hid (B2.out.stay KB)
  clear KB K4 Z4 c0 c1 c2 hlt hne hne2 HY HZZ hmi hki hm3 hm0 hk3 hk0
  generalize (W4.alloc (.cells #[.string y, .string z, .bool d0] 27)).drew = W5 at *
  have HS : Hid (∀ W, Kept (fun _ => False) W5 W → (W.cell? ⟨P, 0, none⟩ = some (.string a) ∧ W.cell? ⟨P, 1, none⟩ = some (.string p) ∧ W.cell? ⟨P, 2, none⟩ = some (.bool d)) ∧ (W.cell? ⟨P + 1, 0, none⟩ = some (.string a) ∧ W.cell? ⟨P + 1, 1, none⟩ = some (.string p) ∧ W.cell? ⟨P + 1, 2, none⟩ = some (.bool d)) ∧ (W.cell? ⟨P + 1 + 1, 0, none⟩ = some (.string y) ∧ W.cell? ⟨P + 1 + 1, 1, none⟩ = some (.string z) ∧ W.cell? ⟨P + 1 + 1, 2, none⟩ = some (.bool d0))) := Lib.hid fun W hk => by
    have b1 := B1.out.stay hk
    have b2 := B2.out.stay hk
    have b3 := B3.out.stay hk
    exact ⟨⟨b1.c0, b1.c1, b1.c2⟩, ⟨b2.c0, b2.c1, b2.c2⟩, b3.c0, b3.c1, b3.c2⟩
  obtain ⟨⟨b0, b1, b2⟩, ⟨b3, b4, b5⟩, b6, b7, b8⟩ := HS.out _ (Kept.refl _ _)
  clear B1 B2 B3 e2
  go_wp2_with fail
  go_region_held3 (fun W => (W.cell? ⟨P, 0, none⟩ = some (.string a) ∧ W.cell? ⟨P, 1, none⟩ = some (.string p) ∧ W.cell? ⟨P, 2, none⟩ = some (.bool d)) ∧ (W.cell? ⟨P + 1, 0, none⟩ = some (.string a) ∧ W.cell? ⟨P + 1, 1, none⟩ = some (.string p) ∧ W.cell? ⟨P + 1, 2, none⟩ = some (.bool d)) ∧ (W.cell? ⟨P + 1 + 1, 0, none⟩ = some (.string y) ∧ W.cell? ⟨P + 1 + 1, 1, none⟩ = some (.string z) ∧ W.cell? ⟨P + 1 + 1, 2, none⟩ = some (.bool d0)))
    (first | exact HS.out _ KC.out | exact HS.out _ (Kept.refl _ _) | exact HS.out _ (Kept.refl _ _).drew)
    ((first | (go_at_call 11; with_reducible refine (HC1.out _).mono ?_; rintro e qq ⟨rfl, j1⟩; have KD := Lib.hid (Kept.then (show Kept (fun _ => False) W5 _ from (by first | exact KC.out | exact Kept.refl _ _ | exact (Kept.refl _ _).drew)) j1); (try clear KC); have KC := KD; clear KD; clear j1) | (go_at_call 12; with_reducible refine (HR1.out _).mono ?_; rintro e qq ⟨rfl, j1⟩; have KD := Lib.hid (Kept.then (show Kept (fun _ => False) W5 _ from (by first | exact KC.out | exact Kept.refl _ _ | exact (Kept.refl _ _).drew)) j1); (try clear KC); have KC := KD; clear KD; clear j1) | (go_at_call 11; with_reducible refine (HC2.out _).mono ?_; rintro e qq ⟨rfl, j1⟩; have KD := Lib.hid (Kept.then (show Kept (fun _ => False) W5 _ from (by first | exact KC.out | exact Kept.refl _ _ | exact (Kept.refl _ _).drew)) j1); (try clear KC); have KC := KD; clear KD; clear j1) | (go_at_call 12; with_reducible refine (HR2.out _).mono ?_; rintro e qq ⟨rfl, j1⟩; have KD := Lib.hid (Kept.then (show Kept (fun _ => False) W5 _ from (by first | exact KC.out | exact Kept.refl _ _ | exact (Kept.refl _ _).drew)) j1); (try clear KC); have KC := KD; clear KD; clear j1)))
  have K6 := Lib.hid (K5.out.then KC.out)
  clear KC
  go_wp2_with fail
  go_ret
  exact ⟨rfl, K6.out⟩
end Go.Proofs.YtcooacjpblhblaaDoor
