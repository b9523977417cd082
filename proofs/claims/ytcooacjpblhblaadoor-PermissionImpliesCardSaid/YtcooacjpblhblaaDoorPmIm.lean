/-
  PermissionImplies returns true.
-/
import Derived.Test.YtcooacjpblhblaaDoorPmMk
import Derived.Test.YtcooacjpblhblaaDoorPmAw
import Derived.Test.YtcooacjpblhblaaDoorPmIr
namespace Go.Proofs.YtcooacjpblhblaaDoor
open Go.RowKit
set_option linter.unusedSimpArgs false
set_option linter.unusedVariables false
set_option maxRecDepth 100000

theorem kept_growI (w : World) (os : Array Obj) : Kept (fun _ => False) w (Go.Sort.grow w os) := ⟨rfl, rfl, rfl, by rw [Go.Sort.size_grow]; omega, fun k hk _ => Go.Sort.heap_grow_old _ _ hk⟩
theorem pimpk_any (x y : Per) (hx : x.p.size ≤ 1000000) (hy : y.p.size ≤ 1000000) (w : World) :
    Calls Tryd.prog 17 #[perV x, perV y] w fun e w' => e = .returned (.bool (impP x y)) ∧ Kept (fun _ => False) w w' :=
  pimp_any x y hx hy w
set_option maxHeartbeats 6400000 in
theorem implies11_any (v0 v1 v2 : Value) (r0 r1 r2 : RawP) (B : Nat) (w : World) (h0 : RawIn w v0 r0 B) (h1 : RawIn w v1 r1 B) (h2 : RawIn w v2 r2 B) :
    Calls Tryd.prog 5 #[v0, v1, v2] w fun e w' => e = .returned (.bool true) ∧ Kept (fun _ => False) w w' := by
  have HM0 := Lib.hid (fun W (hk : Kept (fun _ => False) w W) => make11_any v0 r0 B W (h0.kept hk (fun _ _ h => h)))
  have hsz0 := per_size r0
  have HM1 := Lib.hid (fun W (hk : Kept (fun _ => False) w W) => make11_any v1 r1 B W (h1.kept hk (fun _ _ h => h)))
  have hsz1 := per_size r1
  have HM2 := Lib.hid (fun W (hk : Kept (fun _ => False) w W) => make11_any v2 r2 B W (h2.kept hk (fun _ _ h => h)))
  have hsz2 := per_size r2
  obtain ⟨nv0, rfl, _⟩ := h0
  obtain ⟨n0, xs0, e0⟩ := r0
  obtain ⟨nv1, rfl, _⟩ := h1
  obtain ⟨n1, xs1, e1⟩ := r1
  obtain ⟨nv2, rfl, _⟩ := h2
  obtain ⟨n2, xs2, e2⟩ := r2
  simp only at HM0 HM1 HM2 ⊢
  generalize RawP.per ⟨n0, xs0, e0⟩ = x0 at *
  generalize RawP.per ⟨n1, xs1, e1⟩ = x1 at *
  generalize RawP.per ⟨n2, xs2, e2⟩ = x2 at *
  have HI01 := Lib.hid (fun W => pimpk_any x0 x1 (by omega) (by omega) W)
  have HI10 := Lib.hid (fun W => pimpk_any x1 x0 (by omega) (by omega) W)
  have HI00 := Lib.hid (fun W => pimpk_any x0 x0 (by omega) (by omega) W)
  have HI12 := Lib.hid (fun W => pimpk_any x1 x2 (by omega) (by omega) W)
  have HI02 := Lib.hid (fun W => pimpk_any x0 x2 (by omega) (by omega) W)
  have HR01 := Lib.hid (fun W => rimp_any x0 x1 (by omega) (by omega) W)
  have HR10 := Lib.hid (fun W => rimp_any x1 x0 (by omega) (by omega) W)
  have HK0 := Lib.hid (fun W => rcheck_any x0 (by omega) W)
  have hzz := chkP_zero x0
  have hself := impP_refl x0
  have hg : (chkP x0 == 0) = okP x0 := by rw [Bool.eq_iff_iff, ← hzz]; simp
  have htr : impP x0 x1 = true → impP x1 x2 = true → impP x0 x2 = true := fun g0 g1 => impP_trans g0 g1
  have hanti : impP x0 x1 = true → impP x1 x0 = true → x0 = x1 := fun g0 g1 => impP_anti g0 g1
  rw [hself] at HI00
  generalize impP x0 x1 = I01 at *
  generalize impP x1 x0 = I10 at *
  generalize impP x1 x2 = I12 at *
  generalize impP x0 x2 = I02 at *
  generalize chkP x0 = G0 at *
  generalize okP x0 = O0 at *
  have HTR := Lib.hid htr; have HAN := Lib.hid hanti
  clear hzz hself htr hanti
  obtain ⟨a0, p0, d0⟩ := x0
  obtain ⟨a1, p1, d1⟩ := x1
  obtain ⟨a2, p2, d2⟩ := x2
  unfold perV at *
  simp only at HM0 HM1 HM2 HI01 HI10 HI00 HI12 HI02 HR01 HR10 HK0
  have HZ0 := Lib.hid (Zb.new w 24 (.int .u8 n0) nv0 (.bool e0))
  replace HZ0 := Lib.hid (HZ0.out.kept (Kept.alloc (fun _ => False) _ (.cells #[.int .u8 n1, nv1, .bool e1] 24)) (fun h => h))
  replace HZ0 := Lib.hid (HZ0.out.kept (Kept.alloc (fun _ => False) _ (.cells #[.int .u8 n2, nv2, .bool e2] 24)) (fun h => h))
  have HZ1 := Lib.hid (Zb.new (w.alloc (.cells #[.int .u8 n0, nv0, .bool e0] 24)) 24 (.int .u8 n1) nv1 (.bool e1))
  replace HZ1 := Lib.hid (HZ1.out.kept (Kept.alloc (fun _ => False) _ (.cells #[.int .u8 n2, nv2, .bool e2] 24)) (fun h => h))
  have HZ2 := Lib.hid (Zb.new ((w.alloc (.cells #[.int .u8 n0, nv0, .bool e0] 24)).alloc (.cells #[.int .u8 n1, nv1, .bool e1] 24)) 24 (.int .u8 n2) nv2 (.bool e2))
  have HK := Lib.hid (((Kept.alloc (fun _ => False) w (.cells #[.int .u8 n0, nv0, .bool e0] 24)).then (Kept.alloc (fun _ => False) _ (.cells #[.int .u8 n1, nv1, .bool e1] 24))).then (Kept.alloc (fun _ => False) _ (.cells #[.int .u8 n2, nv2, .bool e2] 24)))
  have f1 : (w.alloc (.cells #[.int .u8 n0, nv0, .bool e0] 24)).heap.size = w.heap.size + 1 := by simp
  rw [f1] at HZ1
  have f2 : ((w.alloc (.cells #[.int .u8 n0, nv0, .bool e0] 24)).alloc (.cells #[.int .u8 n1, nv1, .bool e1] 24)).heap.size = w.heap.size + 1 + 1 := by simp
  rw [f2] at HZ2
  clear hsz0 hsz1 hsz2 f1 f2
  go_enter Tryd.func5, Tryd.ntmps5
  go_wp2_with fail
  refine (awake11_any _).mono ?_
  generalize ((w.alloc (.cells #[.int .u8 n0, nv0, .bool e0] 24)).alloc (.cells #[.int .u8 n1, nv1, .bool e1] 24)).alloc (.cells #[.int .u8 n2, nv2, .bool e2] 24) = W1 at *
  rintro e w2 ⟨rfl, k2⟩
  have K2 := Lib.hid (HK.out.then k2)
  have Z0 := Lib.hid (HZ0.out.kept k2 (fun h => h))
  have Z1 := Lib.hid (HZ1.out.kept k2 (fun h => h))
  have Z2 := Lib.hid (HZ2.out.kept k2 (fun h => h))
  clear k2 HK HZ0 HZ1 HZ2
  obtain ⟨⟨c0, c1, c2⟩, _⟩ := Z0.out.cells
  go_wp2_with fail
  refine (HM0.out _ K2.out).mono ?_
  rintro e w3 ⟨rfl, k3⟩
  have BP0 := Lib.hid ((Bx.new w3 a0 p0 d0 27).stay (Kept.alloc (fun _ => False) _ (.cells #[.string a0, .string p0, .bool d0] 28)))
  have BQ0 := Lib.hid (Bx.new (w3.alloc (.cells #[.string a0, .string p0, .bool d0] 27)) a0 p0 d0 28)
  have g1 : (w3.alloc (.cells #[.string a0, .string p0, .bool d0] 27)).heap.size = w3.heap.size + 1 := by simp
  rw [g1] at BQ0
  have KA := k3.then ((Kept.alloc (fun _ => False) w3 (.cells #[.string a0, .string p0, .bool d0] 27)).then (Kept.alloc (fun _ => False) _ (.cells #[.string a0, .string p0, .bool d0] 28)))
  have K3 := Lib.hid (K2.out.then KA)
  replace Z1 := Lib.hid (Z1.out.kept KA (fun h => h))
  replace Z2 := Lib.hid (Z2.out.kept KA (fun h => h))
  clear k3 c0 c1 c2 KA g1 K2 HM0 Z0
  obtain ⟨⟨c0, c1, c2⟩, _⟩ := Z1.out.cells
  go_wp2_with fail
  generalize (w3.alloc (.cells #[.string a0, .string p0, .bool d0] 27)).alloc (.cells #[.string a0, .string p0, .bool d0] 28) = w4 at *
  generalize w3.heap.size = P0 at *
  refine (HM1.out _ K3.out).mono ?_
  rintro e w5 ⟨rfl, k3⟩
  have BP1 := Lib.hid ((Bx.new w5 a1 p1 d1 27).stay (Kept.alloc (fun _ => False) _ (.cells #[.string a1, .string p1, .bool d1] 28)))
  have BQ1 := Lib.hid (Bx.new (w5.alloc (.cells #[.string a1, .string p1, .bool d1] 27)) a1 p1 d1 28)
  have g1 : (w5.alloc (.cells #[.string a1, .string p1, .bool d1] 27)).heap.size = w5.heap.size + 1 := by simp
  rw [g1] at BQ1
  have KA := k3.then ((Kept.alloc (fun _ => False) w5 (.cells #[.string a1, .string p1, .bool d1] 27)).then (Kept.alloc (fun _ => False) _ (.cells #[.string a1, .string p1, .bool d1] 28)))
  have K5 := Lib.hid (K3.out.then KA)
  replace Z2 := Lib.hid (Z2.out.kept KA (fun h => h))
  replace BP0 := Lib.hid (BP0.out.stay KA)
  replace BQ0 := Lib.hid (BQ0.out.stay KA)
  clear k3 c0 c1 c2 KA g1 K3 HM1 Z1
  obtain ⟨⟨c0, c1, c2⟩, _⟩ := Z2.out.cells
  go_wp2_with fail
  generalize (w5.alloc (.cells #[.string a1, .string p1, .bool d1] 27)).alloc (.cells #[.string a1, .string p1, .bool d1] 28) = w6 at *
  generalize w5.heap.size = P1 at *
  refine (HM2.out _ K5.out).mono ?_
  rintro e w7 ⟨rfl, k3⟩
  have BP2 := Lib.hid ((Bx.new w7 a2 p2 d2 27).stay (Kept.alloc (fun _ => False) _ (.cells #[.string a2, .string p2, .bool d2] 28)))
  have BQ2 := Lib.hid (Bx.new (w7.alloc (.cells #[.string a2, .string p2, .bool d2] 27)) a2 p2 d2 28)
  have g1 : (w7.alloc (.cells #[.string a2, .string p2, .bool d2] 27)).heap.size = w7.heap.size + 1 := by simp
  rw [g1] at BQ2
  have KA := k3.then ((Kept.alloc (fun _ => False) w7 (.cells #[.string a2, .string p2, .bool d2] 27)).then (Kept.alloc (fun _ => False) _ (.cells #[.string a2, .string p2, .bool d2] 28)))
  have K7 := Lib.hid (K5.out.then KA)
  replace BP0 := Lib.hid (BP0.out.stay KA)
  replace BQ0 := Lib.hid (BQ0.out.stay KA)
  replace BP1 := Lib.hid (BP1.out.stay KA)
  replace BQ1 := Lib.hid (BQ1.out.stay KA)
  clear k3 c0 c1 c2 KA g1 K5 HM2 Z2
  obtain ⟨x00, x01, x02⟩ := BP0.out
  obtain ⟨y00, y01, y02⟩ := BQ0.out
  obtain ⟨x10, x11, x12⟩ := BP1.out
  obtain ⟨y10, y11, y12⟩ := BQ1.out
  obtain ⟨x20, x21, x22⟩ := BP2.out
  obtain ⟨y20, y21, y22⟩ := BQ2.out
  go_wp2_with fail
  generalize (w7.alloc (.cells #[.string a2, .string p2, .bool d2] 27)).alloc (.cells #[.string a2, .string p2, .bool d2] 28) = w8 at *
  generalize w7.heap.size = P2 at *
  have HS : Hid (∀ W, Kept (fun _ => False) w8 W → ((W.cell? ⟨P0, 0, none⟩ = some (.string a0) ∧ W.cell? ⟨P0, 1, none⟩ = some (.string p0) ∧ W.cell? ⟨P0, 2, none⟩ = some (.bool d0)) ∧ (W.cell? ⟨P1, 0, none⟩ = some (.string a1) ∧ W.cell? ⟨P1, 1, none⟩ = some (.string p1) ∧ W.cell? ⟨P1, 2, none⟩ = some (.bool d1)) ∧ (W.cell? ⟨P2, 0, none⟩ = some (.string a2) ∧ W.cell? ⟨P2, 1, none⟩ = some (.string p2) ∧ W.cell? ⟨P2, 2, none⟩ = some (.bool d2)) ∧ (W.cell? ⟨P0 + 1, 0, none⟩ = some (.string a0) ∧ W.cell? ⟨P0 + 1, 1, none⟩ = some (.string p0) ∧ W.cell? ⟨P0 + 1, 2, none⟩ = some (.bool d0)) ∧ (W.cell? ⟨P1 + 1, 0, none⟩ = some (.string a1) ∧ W.cell? ⟨P1 + 1, 1, none⟩ = some (.string p1) ∧ W.cell? ⟨P1 + 1, 2, none⟩ = some (.bool d1)))) := Lib.hid fun W hk => by
    have b0 := BP0.out.stay hk
    have b1 := BP1.out.stay hk
    have b2 := BP2.out.stay hk
    have b3 := BQ0.out.stay hk
    have b4 := BQ1.out.stay hk
    exact ⟨⟨b0.c0, b0.c1, b0.c2⟩, ⟨b1.c0, b1.c1, b1.c2⟩, ⟨b2.c0, b2.c1, b2.c2⟩, ⟨b3.c0, b3.c1, b3.c2⟩, b4.c0, b4.c1, b4.c2⟩
  have K9 := K7
  clear BP0 BP1 BP2 BQ0 BQ1 K7
  go_region_held3 (fun W => (W.cell? ⟨P0, 0, none⟩ = some (.string a0) ∧ W.cell? ⟨P0, 1, none⟩ = some (.string p0) ∧ W.cell? ⟨P0, 2, none⟩ = some (.bool d0)) ∧ (W.cell? ⟨P1, 0, none⟩ = some (.string a1) ∧ W.cell? ⟨P1, 1, none⟩ = some (.string p1) ∧ W.cell? ⟨P1, 2, none⟩ = some (.bool d1)) ∧ (W.cell? ⟨P2, 0, none⟩ = some (.string a2) ∧ W.cell? ⟨P2, 1, none⟩ = some (.string p2) ∧ W.cell? ⟨P2, 2, none⟩ = some (.bool d2)) ∧ (W.cell? ⟨P0 + 1, 0, none⟩ = some (.string a0) ∧ W.cell? ⟨P0 + 1, 1, none⟩ = some (.string p0) ∧ W.cell? ⟨P0 + 1, 2, none⟩ = some (.bool d0)) ∧ (W.cell? ⟨P1 + 1, 0, none⟩ = some (.string a1) ∧ W.cell? ⟨P1 + 1, 1, none⟩ = some (.string p1) ∧ W.cell? ⟨P1 + 1, 2, none⟩ = some (.bool d1)))
    (first | exact HS.out _ KC.out | exact HS.out _ (Kept.refl _ _) | exact HS.out _ (Kept.refl _ _).drew)
    ((first | (go_at_call 17; with_reducible refine (HI01.out _).mono ?_; rintro e qq ⟨rfl, j1⟩; have KD := Lib.hid (Kept.then (show Kept (fun _ => False) w8 _ from (by first | exact KC.out | exact Kept.refl _ _ | exact (Kept.refl _ _).drew)) j1); (try clear KC); have KC := KD; clear KD; clear j1) | (go_at_call 17; with_reducible refine (HI10.out _).mono ?_; rintro e qq ⟨rfl, j1⟩; have KD := Lib.hid (Kept.then (show Kept (fun _ => False) w8 _ from (by first | exact KC.out | exact Kept.refl _ _ | exact (Kept.refl _ _).drew)) j1); (try clear KC); have KC := KD; clear KD; clear j1)))
  replace K9 := Lib.hid (K9.out.then KC.out)
  have HS2 := Lib.hid (fun W (hk : Kept (fun _ => False) qq W) => HS.out W (KC.out.then hk))
  clear KC HS HI01 HI10 x00 x01 x02 x10 x11 x12 x20 x21 x22 y00 y01 y02 y10 y11 y12
  generalize qq = W9 at *
  obtain ⟨⟨x00, x01, x02⟩, ⟨x10, x11, x12⟩, ⟨x20, x21, x22⟩, ⟨y00, y01, y02⟩, y10, y11, y12⟩ := HS2.out _ (Kept.refl _ _)
  go_wp2_with fail
  go_region_held3 (fun W => (W.cell? ⟨P0, 0, none⟩ = some (.string a0) ∧ W.cell? ⟨P0, 1, none⟩ = some (.string p0) ∧ W.cell? ⟨P0, 2, none⟩ = some (.bool d0)) ∧ (W.cell? ⟨P1, 0, none⟩ = some (.string a1) ∧ W.cell? ⟨P1, 1, none⟩ = some (.string p1) ∧ W.cell? ⟨P1, 2, none⟩ = some (.bool d1)) ∧ (W.cell? ⟨P2, 0, none⟩ = some (.string a2) ∧ W.cell? ⟨P2, 1, none⟩ = some (.string p2) ∧ W.cell? ⟨P2, 2, none⟩ = some (.bool d2)) ∧ (W.cell? ⟨P0 + 1, 0, none⟩ = some (.string a0) ∧ W.cell? ⟨P0 + 1, 1, none⟩ = some (.string p0) ∧ W.cell? ⟨P0 + 1, 2, none⟩ = some (.bool d0)) ∧ (W.cell? ⟨P1 + 1, 0, none⟩ = some (.string a1) ∧ W.cell? ⟨P1 + 1, 1, none⟩ = some (.string p1) ∧ W.cell? ⟨P1 + 1, 2, none⟩ = some (.bool d1)))
    (first | exact HS2.out _ KC.out | exact HS2.out _ (Kept.refl _ _) | exact HS2.out _ (Kept.refl _ _).drew)
    ((first | (go_at_call 18; with_reducible refine (HR01.out _).mono ?_; rintro e qq ⟨rfl, j1⟩; have KD := Lib.hid (Kept.then (show Kept (fun _ => False) W9 _ from (by first | exact KC.out | exact Kept.refl _ _ | exact (Kept.refl _ _).drew)) j1); (try clear KC); have KC := KD; clear KD; clear j1) | (go_at_call 18; with_reducible refine (HR10.out _).mono ?_; rintro e qq ⟨rfl, j1⟩; have KD := Lib.hid (Kept.then (show Kept (fun _ => False) W9 _ from (by first | exact KC.out | exact Kept.refl _ _ | exact (Kept.refl _ _).drew)) j1); (try clear KC); have KC := KD; clear KD; clear j1) | (go_at_call 17; with_reducible refine (HI00.out _).mono ?_; rintro e qq ⟨rfl, j1⟩; have KD := Lib.hid (Kept.then (show Kept (fun _ => False) W9 _ from (by first | exact KC.out | exact Kept.refl _ _ | exact (Kept.refl _ _).drew)) j1); (try clear KC); have KC := KD; clear KD; clear j1) | (go_at_call 12; with_reducible refine (HK0.out _).mono ?_; rintro e qq ⟨rfl, j1⟩; have KD := Lib.hid (Kept.then (show Kept (fun _ => False) W9 _ from (by first | exact KC.out | exact Kept.refl _ _ | exact (Kept.refl _ _).drew)) j1); (try clear KC); have KC := KD; clear KD; clear j1)))
  replace K9 := Lib.hid (K9.out.then KC.out)
  have HS3 := Lib.hid (fun W (hk : Kept (fun _ => False) qq W) => HS2.out W (KC.out.then hk))
  clear KC HS2 HR01 HR10 HI00 HK0 x00 x01 x02 x10 x11 x12 x20 x21 x22 y00 y01 y02 y10 y11 y12
  generalize qq = W10 at *
  obtain ⟨⟨x00, x01, x02⟩, ⟨x10, x11, x12⟩, ⟨x20, x21, x22⟩, ⟨y00, y01, y02⟩, y10, y11, y12⟩ := HS3.out _ (Kept.refl _ _)
  cases I01 with
  | false =>
    clear HTR HAN hg
    go_wp2_with fail
    go_ret
    exact ⟨rfl, K9.out⟩
  | true =>
    cases I10 with
    | true =>
      have hx := HAN.out rfl rfl
      injection hx with hx1 hx2 hx3
      subst hx1 hx2 hx3
      clear HAN hg
      have HT := HTR.out rfl
      clear HTR
      go_wp2_with fail
      refine (HI12.out _).mono ?_
      rintro e wq ⟨rfl, j1⟩
      obtain ⟨⟨x00, x01, x02⟩, ⟨x10, x11, x12⟩, ⟨x20, x21, x22⟩, ⟨y00, y01, y02⟩, y10, y11, y12⟩ := HS3.out _ j1
      have K10 := Lib.hid (K9.out.then j1)
      clear j1
      cases I12 with
      | false =>
        go_wp2_with fail
        go_ret
        exact ⟨rfl, K10.out⟩
      | true =>
        have ht := HT rfl
        subst ht
        go_wp2_with fail
        refine (HI02.out _).mono ?_
        rintro e wr ⟨rfl, j1⟩
        have K11 := Lib.hid (K10.out.then j1)
        clear j1
        go_wp2_with fail
        go_ret
        exact ⟨rfl, K11.out⟩
    | false =>
      clear HAN hg
      have HT := HTR.out rfl
      clear HTR
      go_wp2_with fail
      refine (HI12.out _).mono ?_
      rintro e wq ⟨rfl, j1⟩
      obtain ⟨⟨x00, x01, x02⟩, ⟨x10, x11, x12⟩, ⟨x20, x21, x22⟩, ⟨y00, y01, y02⟩, y10, y11, y12⟩ := HS3.out _ j1
      have K10 := Lib.hid (K9.out.then j1)
      clear j1
      cases I12 with
      | false =>
        go_wp2_with fail
        go_ret
        exact ⟨rfl, K10.out⟩
      | true =>
        have ht := HT rfl
        subst ht
        go_wp2_with fail
        refine (HI02.out _).mono ?_
        rintro e wr ⟨rfl, j1⟩
        have K11 := Lib.hid (K10.out.then j1)
        clear j1
        go_wp2_with fail
        go_ret
        exact ⟨rfl, K11.out⟩
end Go.Proofs.YtcooacjpblhblaaDoor
