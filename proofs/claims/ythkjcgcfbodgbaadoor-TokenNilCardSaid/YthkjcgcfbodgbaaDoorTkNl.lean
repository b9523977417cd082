/-
  arbaclaw15.TokenNil returns true.
-/
import Derived.Test.YthkjcgcfbodgbaaDoorTkNi
import Derived.Test.YthkjcgcfbodgbaaDoorTkCl
import Derived.Test.YthkjcgcfbodgbaaDoorTkU
import Derived.Test.YthkjcgcfbodgbaaDoorTkTw
import Derived.Deep.RegionHeld3
namespace Go.Proofs.YthkjcgcfbodgbaaDoor
open Go.RowKit Go.Shelf
set_option linter.unusedSimpArgs false
set_option linter.unusedVariables false

theorem fresh_then {w c d : World} {g h : Nat} {gv hv : Value} {l : List Tok} {r : RS} (H : Two c g h gv hv l r ∧ w.heap.size ≤ g ∧ w.heap.size ≤ h ∧ Kept (fun _ => False) w c) (k : Kept (fun i => i = g ∨ i = h) c d) : Kept (fun _ => False) w d :=
  H.2.2.2.trans k (fun _ _ e => e) (fun i hi e => by have h1 := H.2.1; have h2 := H.2.2.1; rcases e with e | e <;> omega)

set_option maxRecDepth 100000 in
set_option maxHeartbeats 12800000 in
theorem tnil_law (kd tx : Nat) (lo hi : Int) (w : World) (hS : Sym w) (hkd : kd < 256) (htx : tx < 256) :
    Calls Tryd.prog 8 #[.agg #[.int .u8 (kd : Int), .int .u8 (tx : Int), .int .i64 lo, .int .i64 hi]] w fun e w' => e = .returned (.bool true) ∧ Kept (fun _ => False) w w' := by
  have hk0 := Kept.alloc (fun _ => False) w (.cells #[.int .u8 (kd : Int), .int .u8 (tx : Int), .int .i64 lo, .int .i64 hi] 60)
  have HK0 := Lib.hid hk0
  have HAW := Lib.hid (awake15_any _ (hS.kept hk0 (fun h => h)))
  have HTX := Lib.hid (fun W => texts_any tx W htx)
  have HF := Lib.hid (fun W => nil_fail 6 W)
  have HN : Hid (∀ W, Calls Tryd.prog 27 #[.slice none 0 0] W fun e w' => ∃ g lv, e = .returned (.pointer (some ⟨g, 0, none⟩)) ∧ RdP w' g lv [] ⟨0, 0, 0⟩ ∧ W.heap.size ≤ g ∧ (∀ k, lv.ownBlock = some k → W.heap.size ≤ k) ∧ Kept (fun _ => False) W w') := fun W => newRd_any _ [] W (Or.inl ⟨rfl, rfl⟩) (Nat.zero_le _)
  have HRR : Hid (∀ W : World, RdR (W.alloc (.cells #[.slice none 0 0, .int .i64 0, .int .i64 0, .int .i64 0] 68)) W.heap.size (.slice none 0 0) [] ⟨0, 0, 0⟩) := fun W => rdr_new (Or.inl ⟨rfl, rfl⟩) (Nat.zero_le _)
  have HCC : Hid (∀ (W : World) (g h : Nat) (gv hv : Value), Two W g h gv hv [] ⟨0, 0, 0⟩ → Calls Tryd.prog 38 #[.pointer (some ⟨g, 0, none⟩), .pointer (some ⟨h, 0, none⟩), .agg #[.int .u8 (kd : Int), .int .u8 (tx : Int), .int .i64 lo, .int .i64 hi]] W fun e w' => e = .returned (.bool true) ∧ (∃ r', Two w' g h gv hv [] r') ∧ Kept (fun k => k = g ∨ k = h) W w') := fun W g h gv hv T => call15_any g h gv hv [] ⟨0, 0, 0⟩ kd tx lo hi W T hkd htx
  have HKI : Hid (∀ i, i < ([] : List Tok).length → (([] : List Tok).getD i tok0).k < 256) := fun i hi => absurd hi (Nat.not_lt_zero i)
  clear hk0 hS
  go_enter Tryd.func8, Tryd.ntmps8
  go_wp2_with fail
  refine HAW.out.mono ?_
  rintro e w1 ⟨rfl, k1⟩
  obtain ⟨b0, b1, b2, b3, _, _, _, _, hbl⟩ := box4 k1
  have K1 := Lib.hid (HK0.out.then k1)
  clear k1 HAW
  go_wp2_with fail
  refine (HTX.out _).mono ?_
  rintro e w2 ⟨s, rfl, k2⟩
  have K2 := Lib.hid k2; clear k2
  go_wp2_with fail
  refine (nil_expect s _).mono ?_
  rintro e w3 ⟨rfl, k3⟩
  have K3 := Lib.hid (K2.out.then k3); clear k3
  go_wp2_with fail
  refine (HF.out _).mono ?_
  rintro e w4 ⟨rfl, k4⟩
  have K4 := Lib.hid (K3.out.then k4); clear k4
  go_wp2_with fail
  refine (nil_err _).mono ?_
  rintro e w5 ⟨rfl, k5⟩
  have HC : Hid (∀ W, Kept (fun _ => False) w5 W → W.cell? ⟨w.heap.size, 0, none⟩ = some (.int .u8 (kd : Int)) ∧ W.cell? ⟨w.heap.size, 1, none⟩ = some (.int .u8 (tx : Int)) ∧ W.cell? ⟨w.heap.size, 2, none⟩ = some (.int .i64 lo) ∧ W.cell? ⟨w.heap.size, 3, none⟩ = some (.int .i64 hi)) := fun W q => by
    have q2 := (K4.out.then k5).then q
    exact ⟨(q2.cell (p := ⟨w.heap.size, 0, none⟩) hbl (fun h => h)).trans b0, (q2.cell (p := ⟨w.heap.size, 1, none⟩) hbl (fun h => h)).trans b1, (q2.cell (p := ⟨w.heap.size, 2, none⟩) hbl (fun h => h)).trans b2, (q2.cell (p := ⟨w.heap.size, 3, none⟩) hbl (fun h => h)).trans b3⟩
  have K5 := Lib.hid (K1.out.then (K4.out.then k5))
  have hwb : w.heap.size ≤ w5.heap.size := K5.out.size
  clear k5 K4 K3 K2 K1 b0 b1 b2 b3 hbl HTX HF
  go_wp2_with fail
  generalize hbxx : w.heap.size = bx at *
  obtain ⟨b0, b1, b2, b3⟩ := HC.out w5 (Kept.refl _ _)
  have D0 := Lib.hid ((Kept.refl (fun _ => False) w5).drew)
  go_region_held3 (fun w' => w'.cell? ⟨bx, 0, none⟩ = some (.int .u8 (kd : Int)) ∧ w'.cell? ⟨bx, 1, none⟩ = some (.int .u8 (tx : Int)) ∧ w'.cell? ⟨bx, 2, none⟩ = some (.int .i64 lo) ∧ w'.cell? ⟨bx, 3, none⟩ = some (.int .i64 hi))
    (first | exact HC.out _ D9.out | exact HC.out _ (D7.out.then (Kept.alloc _ _ _)) | exact HC.out _ D7.out | exact HC.out _ (D6.out.then (Kept.alloc _ _ _)) | exact HC.out _ D6.out | exact HC.out _ D5.out | exact HC.out _ D4.out | exact HC.out _ D3.out | exact HC.out _ D2.out | exact HC.out _ D1.out | exact HC.out _ D0.out)
    ((first | (go_at_call 33; (with_reducible refine (nil_peek _).mono ?_); rintro e w6 ⟨rfl, k6⟩; have D1 := Lib.hid (D0.out.then k6); clear k6) | (go_at_call 34; (with_reducible refine (nil_next _).mono ?_); rintro e w6 ⟨rfl, k6⟩; have D2 := Lib.hid (D1.out.then k6); clear k6) | (go_at_call 35; (with_reducible refine (nil_is s _).mono ?_); rintro e w6 ⟨rfl, k6⟩; have D3 := Lib.hid (D2.out.then k6); clear k6) | (go_at_call 36; (with_reducible refine (nil_accept s _).mono ?_); rintro e w6 ⟨rfl, k6⟩; have D4 := Lib.hid (D3.out.then k6); clear k6) | (go_at_call 28; (with_reducible refine (nil_name _).mono ?_); rintro e w6 ⟨rfl, k6⟩; have D5 := Lib.hid (D4.out.then k6); clear k6) | (go_at_call 37; (with_reducible refine (nil_number lo hi _).mono ?_); rintro e w6 ⟨rfl, k6⟩; have D6 := Lib.hid (D5.out.then k6); clear k6) | (go_at_call 27; (with_reducible refine (HN.out _).mono ?_); rintro e w7 ⟨rg, rv, rfl, h7⟩; (first | (have D7 := Lib.hid (D6.out.then h7.2.2.2)) | (have D7 := Lib.hid ((D6.out.then (Kept.alloc _ _ _)).then h7.2.2.2))); have H7 := Lib.hid h7; clear h7) | (go_at_call 38; (first | (have HTN := Lib.hid (two_new (w := w5) HKI.out D6.out H7.out.1 H7.out.2.1 H7.out.2.2.1 H7.out.2.2.2 (HRR.out w7) (Nat.le_refl _) (fun k e => by cases e) (Kept.alloc _ _ _)); (with_reducible refine (HCC.out _ _ _ _ _ HTN.out.1).mono ?_)) | (have HTN := Lib.hid (two_new2 (w := w5) HKI.out D6.out (HRR.out w6) (Nat.le_refl _) (fun k e => by cases e) (Kept.alloc _ _ _) H7.out.1 H7.out.2.1 H7.out.2.2.1 H7.out.2.2.2); (with_reducible refine (HCC.out _ _ _ _ _ HTN.out.1).mono ?_))); rintro e w8 ⟨rfl, _, k8⟩; have D9 := Lib.hid (fresh_then HTN.out k8); have K8 := Lib.hid k8; clear k8)))
  all_goals
    have KF := Lib.hid (K5.out.then D9.out)
    go_wp2_with fail
    go_ret
    exact ⟨rfl, KF.out⟩
end Go.Proofs.YthkjcgcfbodgbaaDoor
