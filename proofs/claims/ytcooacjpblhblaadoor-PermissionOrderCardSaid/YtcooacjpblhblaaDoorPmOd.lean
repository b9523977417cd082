/-
  PermissionOrder returns true.
-/
import Derived.Test.YtcooacjpblhblaaDoorPmMk
import Derived.Test.YtcooacjpblhblaaDoorPmAw
import Derived.Test.YtcooacjpblhblaaDoorPmC
namespace Go.Proofs.YtcooacjpblhblaaDoor
open Go.RowKit
set_option linter.unusedSimpArgs false
set_option linter.unusedVariables false

theorem kept_grow (w : World) (os : Array Obj) : Kept (fun _ => False) w (Go.Sort.grow w os) := ⟨rfl, rfl, rfl, by rw [Go.Sort.size_grow]; omega, fun k hk _ => Go.Sort.heap_grow_old _ _ hk⟩
theorem pcmpk_any (x y : Per) (hx : x.p.size ≤ 1000000) (hy : y.p.size ≤ 1000000) (w : World) :
    Calls Tryd.prog 19 #[perV x, perV y] w fun e w' => e = .returned (.int .i64 (cmpP x y)) ∧ Kept (fun _ => False) w w' :=
  (pcmp_any x y hx hy w).mono fun e w' ⟨h1, os, h2⟩ => ⟨h1, by rw [h2]; exact kept_grow w os⟩
theorem cmpN_small : ∀ a b : List ByteArray, -1 ≤ cmpN a b ∧ cmpN a b ≤ 1
  | [], [] => by simp [cmpN]
  | [], _ :: _ => by simp [cmpN]
  | _ :: _, [] => by simp [cmpN]
  | x :: a, y :: b => by
    have ih := cmpN_small a b
    unfold cmpN
    split
    · exact ih
    · rcases cmpB_vals x y with h | h | h <;> rw [h] <;> omega
theorem cmpP_small (x y : Per) : -1 ≤ cmpP x y ∧ cmpP x y ≤ 1 := by
  rcases cmpP_cases x y with ⟨_, h⟩ | ⟨_, _, h⟩ | ⟨_, _, ⟨_, h⟩ | ⟨_, _, h⟩ | ⟨_, _, h⟩⟩
  · rw [h]; rcases cmpB_vals x.a y.a with g | g | g <;> rw [g] <;> omega
  · rw [h]
    unfold cmpT
    split
    · exact cmpN_small _ _
    · rcases cmpB_vals x.p y.p with g | g | g <;> rw [g] <;> omega
  · rw [h]; omega
  · rw [h]; omega
  · rw [h]; omega
theorem cmpP_le {x y z : Per} (hx : okP x = true) (hy : okP y = true) (hz : okP z = true) (h1 : ¬ 0 < cmpP x y) (h2 : ¬ 0 < cmpP y z) : cmpP x z ≤ 0 := by
  by_cases e1 : cmpP x y = 0
  · rw [(cmpP_zero _ _).1 e1]; omega
  · by_cases e2 : cmpP y z = 0
    · rw [← (cmpP_zero _ _).1 e2]; omega
    · have := cmpP_trans hx hy hz (by omega) (by omega)
      omega

set_option maxRecDepth 100000 in
set_option maxHeartbeats 6400000 in
theorem order11_any (v0 v1 v2 : Value) (r0 r1 r2 : RawP) (B : Nat) (w : World) (h0 : RawIn w v0 r0 B) (h1 : RawIn w v1 r1 B) (h2 : RawIn w v2 r2 B) :
    Calls Tryd.prog 6 #[v0, v1, v2] w fun e w' => e = .returned (.bool true) ∧ Kept (fun _ => False) w w' := by
  have HM0 := Lib.hid (fun W (hk : Kept (fun _ => False) w W) => make11_any v0 r0 B W (h0.kept hk (fun _ _ h => h)))
  have hsz0 := per_size r0
  have HM1 := Lib.hid (fun W (hk : Kept (fun _ => False) w W) => make11_any v1 r1 B W (h1.kept hk (fun _ _ h => h)))
  have hsz1 := per_size r1
  have HM2 := Lib.hid (fun W (hk : Kept (fun _ => False) w W) => make11_any v2 r2 B W (h2.kept hk (fun _ _ h => h)))
  have hsz2 := per_size r2
  obtain ⟨nv0, rfl, _⟩ := h0
  obtain ⟨n0, xs0, e0⟩ := r0
  obtain ⟨nv1, rfl, _⟩ := h1
  obtain ⟨n1, xs1, e1⟩ := r1
  obtain ⟨nv2, rfl, _⟩ := h2
  obtain ⟨n2, xs2, e2⟩ := r2
  simp only at HM0 HM1 HM2 ⊢
  generalize RawP.per ⟨n0, xs0, e0⟩ = x0 at *
  generalize RawP.per ⟨n1, xs1, e1⟩ = x1 at *
  generalize RawP.per ⟨n2, xs2, e2⟩ = x2 at *
  have HC01 := Lib.hid (fun W => pcmpk_any x0 x1 (by omega) (by omega) W)
  have HC10 := Lib.hid (fun W => pcmpk_any x1 x0 (by omega) (by omega) W)
  have HC12 := Lib.hid (fun W => pcmpk_any x1 x2 (by omega) (by omega) W)
  have HC02 := Lib.hid (fun W => pcmpk_any x0 x2 (by omega) (by omega) W)
  have HR01 := Lib.hid (fun W => rcmp_any x0 x1 (by omega) (by omega) W)
  have HK0 := Lib.hid (fun W => pcheck_any x0 (by omega) W)
  have HK1 := Lib.hid (fun W => pcheck_any x1 (by omega) W)
  have HK2 := Lib.hid (fun W => pcheck_any x2 (by omega) W)
  have hsw := cmpP_swap x0 x1
  have hz := cmpP_zero x0 x1
  have hvals : -1 ≤ cmpP x0 x1 ∧ cmpP x0 x1 ≤ 1 := cmpP_small x0 x1
  have htr : chkP x0 = 0 → chkP x1 = 0 → chkP x2 = 0 → ¬ 0 < cmpP x0 x1 → ¬ 0 < cmpP x1 x2 → cmpP x0 x2 ≤ 0 := fun g0 g1 g2 => cmpP_le ((chkP_zero _).1 g0) ((chkP_zero _).1 g1) ((chkP_zero _).1 g2)
  rw [hsw] at HC10
  generalize cmpP x0 x1 = C01 at *
  generalize cmpP x1 x2 = C12 at *
  generalize cmpP x0 x2 = C02 at *
  generalize chkP x0 = G0 at *
  generalize chkP x1 = G1 at *
  generalize chkP x2 = G2 at *
  have HZT := Lib.hid hz; have HTR := Lib.hid htr
  clear hsw hz htr
  obtain ⟨a0, p0, d0⟩ := x0
  obtain ⟨a1, p1, d1⟩ := x1
  obtain ⟨a2, p2, d2⟩ := x2
  unfold perV at *
  simp only at HM0 HM1 HM2 HC01 HC10 HC12 HC02 HR01 HK0 HK1 HK2
  have HZ0 := Lib.hid (Zb.new w 24 (.int .u8 n0) nv0 (.bool e0))
  replace HZ0 := Lib.hid (HZ0.out.kept (Kept.alloc (fun _ => False) _ (.cells #[.int .u8 n1, nv1, .bool e1] 24)) (fun h => h))
  replace HZ0 := Lib.hid (HZ0.out.kept (Kept.alloc (fun _ => False) _ (.cells #[.int .u8 n2, nv2, .bool e2] 24)) (fun h => h))
  have HZ1 := Lib.hid (Zb.new (w.alloc (.cells #[.int .u8 n0, nv0, .bool e0] 24)) 24 (.int .u8 n1) nv1 (.bool e1))
  replace HZ1 := Lib.hid (HZ1.out.kept (Kept.alloc (fun _ => False) _ (.cells #[.int .u8 n2, nv2, .bool e2] 24)) (fun h => h))
  have HZ2 := Lib.hid (Zb.new ((w.alloc (.cells #[.int .u8 n0, nv0, .bool e0] 24)).alloc (.cells #[.int .u8 n1, nv1, .bool e1] 24)) 24 (.int .u8 n2) nv2 (.bool e2))
  have HK := Lib.hid (((Kept.alloc (fun _ => False) w (.cells #[.int .u8 n0, nv0, .bool e0] 24)).then (Kept.alloc (fun _ => False) _ (.cells #[.int .u8 n1, nv1, .bool e1] 24))).then (Kept.alloc (fun _ => False) _ (.cells #[.int .u8 n2, nv2, .bool e2] 24)))
  have f1 : (w.alloc (.cells #[.int .u8 n0, nv0, .bool e0] 24)).heap.size = w.heap.size + 1 := by simp
  rw [f1] at HZ1
  have f2 : ((w.alloc (.cells #[.int .u8 n0, nv0, .bool e0] 24)).alloc (.cells #[.int .u8 n1, nv1, .bool e1] 24)).heap.size = w.heap.size + 1 + 1 := by simp
  rw [f2] at HZ2
  clear hsz0 hsz1 hsz2 f1 f2
  go_enter Tryd.func6, Tryd.ntmps6
  go_wp2_with fail
  refine (awake11_any _).mono ?_
  generalize ((w.alloc (.cells #[.int .u8 n0, nv0, .bool e0] 24)).alloc (.cells #[.int .u8 n1, nv1, .bool e1] 24)).alloc (.cells #[.int .u8 n2, nv2, .bool e2] 24) = W1 at *
  rintro e w2 ⟨rfl, k2⟩
  have K2 := Lib.hid (HK.out.then k2)
  have Z0 := Lib.hid (HZ0.out.kept k2 (fun h => h))
  have Z1 := Lib.hid (HZ1.out.kept k2 (fun h => h))
  have Z2 := Lib.hid (HZ2.out.kept k2 (fun h => h))
  clear k2 HK HZ0 HZ1 HZ2
  obtain ⟨⟨c0, c1, c2⟩, _⟩ := Z0.out.cells
  go_wp2_with fail
  refine (HM0.out _ K2.out).mono ?_
  rintro e w3 ⟨rfl, k3⟩
  have BP0 := Lib.hid ((Bx.new w3 a0 p0 d0 27).stay (Kept.alloc (fun _ => False) _ (.cells #[.string a0, .string p0, .bool d0] 28)))
  have BQ0 := Lib.hid (Bx.new (w3.alloc (.cells #[.string a0, .string p0, .bool d0] 27)) a0 p0 d0 28)
  have g1 : (w3.alloc (.cells #[.string a0, .string p0, .bool d0] 27)).heap.size = w3.heap.size + 1 := by simp
  rw [g1] at BQ0
  have KA := k3.then ((Kept.alloc (fun _ => False) w3 (.cells #[.string a0, .string p0, .bool d0] 27)).then (Kept.alloc (fun _ => False) _ (.cells #[.string a0, .string p0, .bool d0] 28)))
  have K3 := Lib.hid (K2.out.then KA)
  replace Z1 := Lib.hid (Z1.out.kept KA (fun h => h))
  replace Z2 := Lib.hid (Z2.out.kept KA (fun h => h))
  clear k3 c0 c1 c2 KA g1 K2 HM0 Z0
  obtain ⟨⟨c0, c1, c2⟩, _⟩ := Z1.out.cells
  go_wp2_with fail
  generalize (w3.alloc (.cells #[.string a0, .string p0, .bool d0] 27)).alloc (.cells #[.string a0, .string p0, .bool d0] 28) = w4 at *
  generalize w3.heap.size = P0 at *
  refine (HM1.out _ K3.out).mono ?_
  rintro e w5 ⟨rfl, k3⟩
  have BP1 := Lib.hid ((Bx.new w5 a1 p1 d1 27).stay (Kept.alloc (fun _ => False) _ (.cells #[.string a1, .string p1, .bool d1] 28)))
  have BQ1 := Lib.hid (Bx.new (w5.alloc (.cells #[.string a1, .string p1, .bool d1] 27)) a1 p1 d1 28)
  have g1 : (w5.alloc (.cells #[.string a1, .string p1, .bool d1] 27)).heap.size = w5.heap.size + 1 := by simp
  rw [g1] at BQ1
  have KA := k3.then ((Kept.alloc (fun _ => False) w5 (.cells #[.string a1, .string p1, .bool d1] 27)).then (Kept.alloc (fun _ => False) _ (.cells #[.string a1, .string p1, .bool d1] 28)))
  have K5 := Lib.hid (K3.out.then KA)
  replace Z2 := Lib.hid (Z2.out.kept KA (fun h => h))
  replace BP0 := Lib.hid (BP0.out.stay KA)
  replace BQ0 := Lib.hid (BQ0.out.stay KA)
  clear k3 c0 c1 c2 KA g1 K3 HM1 Z1
  obtain ⟨⟨c0, c1, c2⟩, _⟩ := Z2.out.cells
  go_wp2_with fail
  generalize (w5.alloc (.cells #[.string a1, .string p1, .bool d1] 27)).alloc (.cells #[.string a1, .string p1, .bool d1] 28) = w6 at *
  generalize w5.heap.size = P1 at *
  refine (HM2.out _ K5.out).mono ?_
  rintro e w7 ⟨rfl, k3⟩
  have BP2 := Lib.hid ((Bx.new w7 a2 p2 d2 27).stay (Kept.alloc (fun _ => False) _ (.cells #[.string a2, .string p2, .bool d2] 28)))
  have BQ2 := Lib.hid (Bx.new (w7.alloc (.cells #[.string a2, .string p2, .bool d2] 27)) a2 p2 d2 28)
  have g1 : (w7.alloc (.cells #[.string a2, .string p2, .bool d2] 27)).heap.size = w7.heap.size + 1 := by simp
  rw [g1] at BQ2
  have KA := k3.then ((Kept.alloc (fun _ => False) w7 (.cells #[.string a2, .string p2, .bool d2] 27)).then (Kept.alloc (fun _ => False) _ (.cells #[.string a2, .string p2, .bool d2] 28)))
  have K7 := Lib.hid (K5.out.then KA)
  replace BP0 := Lib.hid (BP0.out.stay KA)
  replace BQ0 := Lib.hid (BQ0.out.stay KA)
  replace BP1 := Lib.hid (BP1.out.stay KA)
  replace BQ1 := Lib.hid (BQ1.out.stay KA)
  clear k3 c0 c1 c2 KA g1 K5 HM2 Z2
  obtain ⟨x00, x01, x02⟩ := BP0.out
  obtain ⟨y00, y01, y02⟩ := BQ0.out
  obtain ⟨x10, x11, x12⟩ := BP1.out
  obtain ⟨y10, y11, y12⟩ := BQ1.out
  obtain ⟨x20, x21, x22⟩ := BP2.out
  obtain ⟨y20, y21, y22⟩ := BQ2.out
  go_wp2_with fail
  generalize (w7.alloc (.cells #[.string a2, .string p2, .bool d2] 27)).alloc (.cells #[.string a2, .string p2, .bool d2] 28) = w8 at *
  generalize w7.heap.size = P2 at *
  have HS : Hid (∀ W, Kept (fun _ => False) w8 W → (W.cell? ⟨P0, 0, none⟩ = some (.string a0) ∧ W.cell? ⟨P0, 1, none⟩ = some (.string p0) ∧ W.cell? ⟨P0, 2, none⟩ = some (.bool d0)) ∧ (W.cell? ⟨P1, 0, none⟩ = some (.string a1) ∧ W.cell? ⟨P1, 1, none⟩ = some (.string p1) ∧ W.cell? ⟨P1, 2, none⟩ = some (.bool d1)) ∧ (W.cell? ⟨P2, 0, none⟩ = some (.string a2) ∧ W.cell? ⟨P2, 1, none⟩ = some (.string p2) ∧ W.cell? ⟨P2, 2, none⟩ = some (.bool d2)) ∧ (W.cell? ⟨P0 + 1, 0, none⟩ = some (.string a0) ∧ W.cell? ⟨P0 + 1, 1, none⟩ = some (.string p0) ∧ W.cell? ⟨P0 + 1, 2, none⟩ = some (.bool d0)) ∧ (W.cell? ⟨P1 + 1, 0, none⟩ = some (.string a1) ∧ W.cell? ⟨P1 + 1, 1, none⟩ = some (.string p1) ∧ W.cell? ⟨P1 + 1, 2, none⟩ = some (.bool d1))) := Lib.hid fun W hk => by
    have b0 := BP0.out.stay hk
    have b1 := BP1.out.stay hk
    have b2 := BP2.out.stay hk
    have b3 := BQ0.out.stay hk
    have b4 := BQ1.out.stay hk
    exact ⟨⟨b0.c0, b0.c1, b0.c2⟩, ⟨b1.c0, b1.c1, b1.c2⟩, ⟨b2.c0, b2.c1, b2.c2⟩, ⟨b3.c0, b3.c1, b3.c2⟩, b4.c0, b4.c1, b4.c2⟩
  have KC : Hid (Kept (fun _ => False) w8 w8) := Lib.hid (Kept.refl _ _)
  have hneg : IntKind.i64.wrap (-C01) = -C01 := IntWalk.i64_in _ (by omega)
  have K9 := K7
  clear BP0 BP1 BP2 BQ0 BQ1 x00 x01 x02 x10 x11 x12 x20 x21 x22 y00 y01 y02 y10 y11 y12 y20 y21 y22 K7
  refine (HC01.out _).mono ?_
  rintro e wq ⟨rfl, j1⟩
  replace KC := Lib.hid (KC.out.then j1)
  clear j1
  obtain ⟨⟨x00, x01, x02⟩, ⟨x10, x11, x12⟩, ⟨x20, x21, x22⟩, ⟨y00, y01, y02⟩, y10, y11, y12⟩ := HS.out _ KC.out
  go_wp2_with fail
  refine (HR01.out _).mono ?_
  rintro e wq ⟨rfl, j1⟩
  replace KC := Lib.hid (KC.out.then j1)
  clear j1
  obtain ⟨⟨x00, x01, x02⟩, ⟨x10, x11, x12⟩, ⟨x20, x21, x22⟩, ⟨y00, y01, y02⟩, y10, y11, y12⟩ := HS.out _ KC.out
  go_wp2_with fail
  refine (HC10.out _).mono ?_
  rintro e wq ⟨rfl, j1⟩
  replace KC := Lib.hid (KC.out.then j1)
  clear j1
  obtain ⟨⟨x00, x01, x02⟩, ⟨x10, x11, x12⟩, ⟨x20, x21, x22⟩, ⟨y00, y01, y02⟩, y10, y11, y12⟩ := HS.out _ KC.out
  have hzt := HZT.out
  clear HZT HC01 HC10 HR01
  by_cases hc : C01 = 0
  · have hx := hzt.1 hc
    injection hx with hx1 hx2 hx3
    subst hx1 hx2 hx3
    subst hc
    clear hzt hneg
    go_wp2_with fail
    refine (HK0.out _).mono ?_
    rintro e wq ⟨rfl, j1⟩
    replace KC := Lib.hid (KC.out.then j1)
    clear j1
    obtain ⟨⟨x00, x01, x02⟩, ⟨x10, x11, x12⟩, ⟨x20, x21, x22⟩, ⟨y00, y01, y02⟩, y10, y11, y12⟩ := HS.out _ KC.out
    by_cases g0 : G0 = 0
    · have g0b : (G0 != 0) = false := by simp [g0]
      subst g0
      go_wp2_with fail
      refine (HK1.out _).mono ?_
      rintro e wq ⟨rfl, j1⟩
      replace KC := Lib.hid (KC.out.then j1)
      clear j1
      obtain ⟨⟨x00, x01, x02⟩, ⟨x10, x11, x12⟩, ⟨x20, x21, x22⟩, ⟨y00, y01, y02⟩, y10, y11, y12⟩ := HS.out _ KC.out
      by_cases g1 : G1 = 0
      · subst g1
        go_wp2_with fail
        refine (HK2.out _).mono ?_
        rintro e wq ⟨rfl, j1⟩
        replace KC := Lib.hid (KC.out.then j1)
        clear j1
        obtain ⟨⟨x00, x01, x02⟩, ⟨x10, x11, x12⟩, ⟨x20, x21, x22⟩, ⟨y00, y01, y02⟩, y10, y11, y12⟩ := HS.out _ KC.out
        by_cases g2 : G2 = 0
        · subst g2
          have htr := HTR.out (by first | rfl | trivial) (by first | rfl | trivial) (by first | rfl | trivial)
          go_wp2_with fail
          refine (HC12.out _).mono ?_
          rintro e wq ⟨rfl, j1⟩
          replace KC := Lib.hid (KC.out.then j1)
          clear j1
          obtain ⟨⟨x00, x01, x02⟩, ⟨x10, x11, x12⟩, ⟨x20, x21, x22⟩, ⟨y00, y01, y02⟩, y10, y11, y12⟩ := HS.out _ KC.out
          by_cases h2 : 0 < C12
          · go_wp2_with fail
            go_ret
            exact ⟨rfl, K9.out.then KC.out⟩
          · have h3 := htr (by omega) (by omega)
            go_wp2_with fail
            refine (HC02.out _).mono ?_
            rintro e wq ⟨rfl, j1⟩
            replace KC := Lib.hid (KC.out.then j1)
            clear j1
            obtain ⟨⟨x00, x01, x02⟩, ⟨x10, x11, x12⟩, ⟨x20, x21, x22⟩, ⟨y00, y01, y02⟩, y10, y11, y12⟩ := HS.out _ KC.out
            go_wp2_with fail
            go_ret
            exact ⟨rfl, K9.out.then KC.out⟩
        · have g2b : (G2 == 0) = false := beq_eq_false_iff_ne.2 g2
          go_wp2_with fail
          go_ret
          exact ⟨rfl, K9.out.then KC.out⟩
      · have g1b : (G1 == 0) = false := beq_eq_false_iff_ne.2 g1
        go_wp2_with fail
        go_ret
        exact ⟨rfl, K9.out.then KC.out⟩
    · have g0b : (G0 == 0) = false := beq_eq_false_iff_ne.2 g0
      go_wp2_with fail
      go_ret
      exact ⟨rfl, K9.out.then KC.out⟩
  · have hcb : (C01 == 0) = false := beq_eq_false_iff_ne.2 hc
    have hne : ¬ (a0 = a1 ∧ p0 = p1 ∧ d0 = d1) := fun ⟨h1, h2, h3⟩ => hc (hzt.2 (by rw [h1, h2, h3]))
    have q1 : (a0.toList == a1.toList) = decide (a0 = a1) := str_eq a0 a1
    have q2 : (p0.toList == p1.toList) = decide (p0 = p1) := str_eq p0 p1
    have hnq : (decide (a0 = a1) && decide (p0 = p1) && decide (d0 = d1)) = false := by
      rw [Bool.eq_false_iff]; intro h; simp only [Bool.and_eq_true, decide_eq_true_eq] at h; exact hne ⟨h.1.1, h.1.2, h.2⟩
    generalize decide (a0 = a1) = E1 at *
    generalize decide (p0 = p1) = E2 at *
    have HNQ := Lib.hid hnq
    clear hzt hc hne hnq
    go_wp2_with fail
    all_goals
      first
      | (exfalso; have h := HNQ.out; clear HTR HS HK0 HK1 HK2 HC12 HC02 KC K9; simp_all; done)
      | skip
    all_goals
        refine (HK0.out _).mono ?_
        rintro e wq ⟨rfl, j1⟩
        replace KC := Lib.hid (KC.out.then j1)
        clear j1
        obtain ⟨⟨x00, x01, x02⟩, ⟨x10, x11, x12⟩, ⟨x20, x21, x22⟩, ⟨y00, y01, y02⟩, y10, y11, y12⟩ := HS.out _ KC.out
        by_cases g0 : G0 = 0
        · subst g0
          go_wp2_with fail
          refine (HK1.out _).mono ?_
          rintro e wq ⟨rfl, j1⟩
          replace KC := Lib.hid (KC.out.then j1)
          clear j1
          obtain ⟨⟨x00, x01, x02⟩, ⟨x10, x11, x12⟩, ⟨x20, x21, x22⟩, ⟨y00, y01, y02⟩, y10, y11, y12⟩ := HS.out _ KC.out
          by_cases g1 : G1 = 0
          · subst g1
            go_wp2_with fail
            refine (HK2.out _).mono ?_
            rintro e wq ⟨rfl, j1⟩
            replace KC := Lib.hid (KC.out.then j1)
            clear j1
            obtain ⟨⟨x00, x01, x02⟩, ⟨x10, x11, x12⟩, ⟨x20, x21, x22⟩, ⟨y00, y01, y02⟩, y10, y11, y12⟩ := HS.out _ KC.out
            by_cases g2 : G2 = 0
            · subst g2
              have htr := HTR.out (by first | rfl | trivial) (by first | rfl | trivial) (by first | rfl | trivial)
              by_cases h1 : 0 < C01
              · go_wp2_with fail
                go_ret
                exact ⟨rfl, K9.out.then KC.out⟩
              · go_wp2_with fail
                refine (HC12.out _).mono ?_
                rintro e wq ⟨rfl, j1⟩
                replace KC := Lib.hid (KC.out.then j1)
                clear j1
                obtain ⟨⟨x00, x01, x02⟩, ⟨x10, x11, x12⟩, ⟨x20, x21, x22⟩, ⟨y00, y01, y02⟩, y10, y11, y12⟩ := HS.out _ KC.out
                by_cases h2 : 0 < C12
                · go_wp2_with fail
                  go_ret
                  exact ⟨rfl, K9.out.then KC.out⟩
                · have h3 := htr (by omega) (by omega)
                  go_wp2_with fail
                  refine (HC02.out _).mono ?_
                  rintro e wq ⟨rfl, j1⟩
                  replace KC := Lib.hid (KC.out.then j1)
                  clear j1
                  obtain ⟨⟨x00, x01, x02⟩, ⟨x10, x11, x12⟩, ⟨x20, x21, x22⟩, ⟨y00, y01, y02⟩, y10, y11, y12⟩ := HS.out _ KC.out
                  go_wp2_with fail
                  go_ret
                  exact ⟨rfl, K9.out.then KC.out⟩
            · have g2b : (G2 == 0) = false := beq_eq_false_iff_ne.2 g2
              go_wp2_with fail
              go_ret
              exact ⟨rfl, K9.out.then KC.out⟩
          · have g1b : (G1 == 0) = false := beq_eq_false_iff_ne.2 g1
            go_wp2_with fail
            go_ret
            exact ⟨rfl, K9.out.then KC.out⟩
        · have g0b : (G0 == 0) = false := beq_eq_false_iff_ne.2 g0
          go_wp2_with fail
          go_ret
          exact ⟨rfl, K9.out.then KC.out⟩
end Go.Proofs.YtcooacjpblhblaaDoor
