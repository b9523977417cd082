import Derived.Test.YtjglnpijngdpkaaDoorDyAw
import Derived.Test.YtjglnpijngdpkaaDoorDyBb
import Derived.Deep.RegionHeld3
/-
  arbaclaw05.DaysBits returns true.
-/
namespace Go.Proofs.YtjglnpijngdpkaaDoor
open Go.RowKit Go.Shelf
set_option linter.unusedSimpArgs false
set_option linter.unusedVariables false
set_option maxRecDepth 100000

/-- The cells of a set of days and of a set of numbers. -/
structure Two (W : World) (P Q : Nat) (a : Option Addr) (n c : Nat) (lo : Int) (b : Option Addr) (m k : Nat) : Prop where
  s0 : W.cell? ⟨P, 0, none⟩ = some (.slice a n c)
  x0 : W.cell? ⟨Q, 0, none⟩ = some (.int .u64 lo)
  x1 : W.cell? ⟨Q, 1, none⟩ = some (.slice b m k)
theorem Two.on {W V : World} {P Q : Nat} {a : Option Addr} {n c : Nat} {lo : Int} {b : Option Addr} {m k : Nat} (h : Two W P Q a n c lo b m k) (kk : Kept (fun _ => False) W V) : Two V P Q a n c lo b m k :=
  ⟨(kk.cell (p := ⟨P, 0, none⟩) (World.block_lt_of_cell? W _ h.s0) (fun h => h)).trans h.s0, (kk.cell (p := ⟨Q, 0, none⟩) (World.block_lt_of_cell? W _ h.x0) (fun h => h)).trans h.x0, (kk.cell (p := ⟨Q, 1, none⟩) (World.block_lt_of_cell? W _ h.x1) (fun h => h)).trans h.x1⟩

set_option maxHeartbeats 12800000 in
theorem bitsL_any (w0 : World) (v0 v1 : Value) (l0 l1 : List (Nat × Nat)) (h0 : RowG EU w0 v0 l0) (h1 : RowG EU w0 v1 l1) (hb0 : ∀ p ∈ l0, p.1 < 65536 ∧ p.2 < 65536) (hb1 : ∀ p ∈ l1, p.1 < 65536 ∧ p.2 < 65536) (hT : TabD w0) (hZ : Tz w0) :
    Calls Tryd.prog 8 #[v0, v1] w0 fun e w' => e = .returned (.bool true) ∧ Kept (fun _ => False) w0 w' := by
  obtain ⟨la, lc, rfl, _, _⟩ := h0.form
  obtain ⟨ka, kc, rfl, _, _⟩ := h1.form
  have HV0 : Hid (∀ W, Kept (fun _ => False) w0 W → RowG EU W (.slice la l0.length lc) l0) := Lib.hid fun W k => h0.on k
  have HV1 : Hid (∀ W, Kept (fun _ => False) w0 W → RowG EU W (.slice ka l1.length kc) l1) := Lib.hid fun W k => h1.on k
  have HTZ : Hid (∀ W, Kept (fun _ => False) w0 W → Tz W) := Lib.hid fun W k => hZ.kept k (fun h => h)
  have HB0 := Lib.hid hb0; have HB1 := Lib.hid hb1; have HT := Lib.hid hT
  obtain ⟨N0, hN0⟩ : ∃ N, N = l0.length := ⟨_, rfl⟩
  obtain ⟨N1, hN1⟩ : ∃ N, N = l1.length := ⟨_, rfl⟩
  rw [← hN0] at HV0 ⊢
  rw [← hN1] at HV1 ⊢
  clear h0 h1 hb0 hb1 hT hZ hN0 hN1
  go_enter Tryd.func8, Tryd.ntmps8
  go_wp2_with fail
  refine (awD_any w0 HT.out).mono ?_
  rintro e w1 ⟨rfl, k1⟩
  have HK1 := Lib.hid k1
  clear k1
  go_wp2_with fail
  refine (make2B_any _ _ l0 (HV0.out _ HK1.out) HB0.out).mono ?_
  rintro e w2 ⟨ra, n, rc, lo, xa, xn, xc, A, rfl, hfar, hm, hs, k2⟩
  have HFA := Lib.hid hfar
  have HK2 := Lib.hid (HK1.out.then k2)
  have HM2 : Hid (∀ W, Kept (fun _ => False) w2 W → MemD W (.agg #[.slice ra n rc]) A) := Lib.hid fun W k => hm.on k
  have HS2 : Hid (∀ W, Kept (fun _ => False) w2 W → SetB W (.agg #[.int .u64 lo, .slice xa xn xc]) A) := Lib.hid fun W k => hs.on k
  clear hfar hm hs k2 HK1
  have HA2 := Lib.hid ((Kept.alloc (fun _ => False) w2 (.cells #[.slice ra n rc] 27)).then (Kept.alloc (fun _ => False) (w2.alloc (.cells #[.slice ra n rc] 27)) (.cells #[.int .u64 lo, .slice xa xn xc] 57)))
  have HC2 : Hid (Two ((w2.alloc (.cells #[.slice ra n rc] 27)).alloc (.cells #[.int .u64 lo, .slice xa xn xc] 57)) w2.heap.size (w2.heap.size + 1) ra n rc lo xa xn xc) := Lib.hid ⟨by go_simp, by go_simp, by go_simp⟩
  go_wp2_with fail
  refine (make2B_any _ _ l1 (HV1.out _ (HK2.out.then HA2.out)) HB1.out).mono ?_
  obtain ⟨P1, hP1⟩ : ∃ P, P = w2.heap.size := ⟨_, rfl⟩
  obtain ⟨w3, hw3⟩ : ∃ w, w = (w2.alloc (.cells #[.slice ra n rc] 27)).alloc (.cells #[.int .u64 lo, .slice xa xn xc] 57) := ⟨_, rfl⟩
  rw [← hw3] at HA2 HC2 ⊢
  rw [← hP1] at HC2 ⊢
  clear hw3 hP1
  rintro e w4 ⟨qa, n2, qc, lo2, za, zn, zc, B, rfl, hfar, hm, hs, k4⟩
  have HFB := Lib.hid hfar
  have HJ4 := Lib.hid (HA2.out.then k4)
  have HM4 : Hid (∀ W, Kept (fun _ => False) w4 W → MemD W (.agg #[.slice qa n2 qc]) B) := Lib.hid fun W k => hm.on k
  have HS4 : Hid (∀ W, Kept (fun _ => False) w4 W → SetB W (.agg #[.int .u64 lo2, .slice za zn zc]) B) := Lib.hid fun W k => hs.on k
  have HA4 := Lib.hid ((Kept.alloc (fun _ => False) w4 (.cells #[.slice qa n2 qc] 27)).then (Kept.alloc (fun _ => False) (w4.alloc (.cells #[.slice qa n2 qc] 27)) (.cells #[.int .u64 lo2, .slice za zn zc] 57)))
  obtain ⟨w5, hw5⟩ : ∃ w, w = (w4.alloc (.cells #[.slice qa n2 qc] 27)).alloc (.cells #[.int .u64 lo2, .slice za zn zc] 57) := ⟨_, rfl⟩
  obtain ⟨P2, hP2⟩ : ∃ P, P = w4.heap.size := ⟨_, rfl⟩
  have HC4 : Hid (Two w5 P1 (P1 + 1) ra n rc lo xa xn xc ∧ Two w5 P2 (P2 + 1) qa n2 qc lo2 za zn zc) := Lib.hid ⟨by rw [hw5]; exact HC2.out.on (k4.then HA4.out), by rw [hw5, hP2]; exact ⟨by go_simp, by go_simp, by go_simp⟩⟩
  rw [← hw5] at HA4
  have HW5 := Lib.hid hw5; have HP2 := Lib.hid hP2
  clear hw5 hP2 hfar hm hs k4 HC2
  have HMA : Hid (∀ W, Kept (fun _ => False) w5 W → MemD W (.agg #[.slice ra n rc]) A) := Lib.hid fun W k => HM2.out W (HJ4.out.then (HA4.out.then k))
  have HSA : Hid (∀ W, Kept (fun _ => False) w5 W → SetB W (.agg #[.int .u64 lo, .slice xa xn xc]) A) := Lib.hid fun W k => HS2.out W (HJ4.out.then (HA4.out.then k))
  have HMB : Hid (∀ W, Kept (fun _ => False) w5 W → MemD W (.agg #[.slice qa n2 qc]) B) := Lib.hid fun W k => HM4.out W (HA4.out.then k)
  have HSB : Hid (∀ W, Kept (fun _ => False) w5 W → SetB W (.agg #[.int .u64 lo2, .slice za zn zc]) B) := Lib.hid fun W k => HS4.out W (HA4.out.then k)
  have HK5 := Lib.hid (HK2.out.then (HJ4.out.then HA4.out))
  have HZ5 : Hid (∀ W, Kept (fun _ => False) w5 W → Tz W) := Lib.hid fun W k => HTZ.out W (HK5.out.then k)
  have HFO := Lib.hid (HFA.out.or HFB.out)
  have HFN := Lib.hid (FarB.and (G := B) HFA.out)
  have HFM := Lib.hid (FarB.minus (G := B) HFA.out)
  obtain ⟨bW, hbW⟩ : ∃ b : Bool, b = true ↔ ∀ x : Nat, A (x : Int) = true → B (x : Int) = true := by
    classical exact ⟨decide _, decide_eq_true_iff⟩
  obtain ⟨bQ, hbQ⟩ : ∃ b : Bool, b = true ↔ ∀ x : Nat, A (x : Int) = B (x : Int) := by
    classical exact ⟨decide _, decide_eq_true_iff⟩
  obtain ⟨bE, hbE⟩ : ∃ b : Bool, b = true ↔ ∀ x : Nat, (A (x : Int) && B (x : Int)) = false := by
    classical exact ⟨decide _, decide_eq_true_iff⟩
  have HBW := Lib.hid hbW; have HBQ := Lib.hid hbQ; have HBE := Lib.hid hbE
  have hbb : ∀ c : Bool, (c == c) = true := fun c => by cases c <;> rfl
  have hCC : Hid (∀ W, Kept (fun _ => False) w5 W → (W.cell? ⟨P1, 0, none⟩ = some (.slice ra n rc) ∧ W.cell? ⟨P1 + 1, 0, none⟩ = some (.int .u64 lo) ∧ W.cell? ⟨P1 + 1, 1, none⟩ = some (.slice xa xn xc) ∧ W.cell? ⟨P2, 0, none⟩ = some (.slice qa n2 qc) ∧ W.cell? ⟨P2 + 1, 0, none⟩ = some (.int .u64 lo2) ∧ W.cell? ⟨P2 + 1, 1, none⟩ = some (.slice za zn zc))) := Lib.hid fun W k =>
    have t := HC4.out.1.on k
    have u := HC4.out.2.on k
    ⟨t.s0, t.x0, t.x1, u.s0, u.x0, u.x1⟩
  clear hbW hbQ hbE HM2 HS2 HM4 HS4 HK2 HJ4 HA2 HA4 HV0 HV1 HTZ HB0 HB1 HT HC4
  go_wp2_with fail
  rw [← HW5.out, ← HP2.out]
  clear HW5 HP2
  go_region_held3 (fun W => W.cell? ⟨P1, 0, none⟩ = some (.slice ra n rc) ∧ W.cell? ⟨P1 + 1, 0, none⟩ = some (.int .u64 lo) ∧ W.cell? ⟨P1 + 1, 1, none⟩ = some (.slice xa xn xc) ∧ W.cell? ⟨P2, 0, none⟩ = some (.slice qa n2 qc) ∧ W.cell? ⟨P2 + 1, 0, none⟩ = some (.int .u64 lo2) ∧ W.cell? ⟨P2 + 1, 1, none⟩ = some (.slice za zn zc))
    (first | exact hCC.out _ KC.out | exact hCC.out _ (Kept.refl _ _) | exact hCC.out _ (Kept.refl _ _).drew)
    ((first | (go_at_call 20; with_reducible refine (or_M _ _ _ (HMA.out _ (show Kept (fun _ => False) w5 _ from (by first | exact KC.out | exact Kept.refl _ _ | exact (Kept.refl _ _).drew))) (HMB.out _ (show Kept (fun _ => False) w5 _ from (by first | exact KC.out | exact Kept.refl _ _ | exact (Kept.refl _ _).drew)))).mono ?_; rintro e qq ⟨v38, rfl, hmm, j1⟩; have KD := Lib.hid (Kept.then (show Kept (fun _ => False) w5 _ from (by first | exact KC.out | exact Kept.refl _ _ | exact (Kept.refl _ _).drew)) j1); (try clear KC); have KC := KD; clear KD; (try (replace M38 := Lib.hid (M38.out.on j1))); (try (replace M41 := Lib.hid (M41.out.on j1))); (try (replace M47 := Lib.hid (M47.out.on j1))); (try (replace M50 := Lib.hid (M50.out.on j1))); (try (replace M57 := Lib.hid (M57.out.on j1))); (try (replace M60 := Lib.hid (M60.out.on j1))); (try clear M38); have M38 := Lib.hid hmm; clear hmm; clear j1) | (go_at_call 32; with_reducible refine (orB_any _ _ _ (HSA.out _ (show Kept (fun _ => False) w5 _ from (by first | exact KC.out | exact Kept.refl _ _ | exact (Kept.refl _ _).drew))) (HSB.out _ (show Kept (fun _ => False) w5 _ from (by first | exact KC.out | exact Kept.refl _ _ | exact (Kept.refl _ _).drew)))).mono ?_; rintro e qq ⟨v41, rfl, hmm, j1⟩; have KD := Lib.hid (Kept.then (show Kept (fun _ => False) w5 _ from (by first | exact KC.out | exact Kept.refl _ _ | exact (Kept.refl _ _).drew)) j1); (try clear KC); have KC := KD; clear KD; (try (replace M38 := Lib.hid (M38.out.on j1))); (try (replace M41 := Lib.hid (M41.out.on j1))); (try (replace M47 := Lib.hid (M47.out.on j1))); (try (replace M50 := Lib.hid (M50.out.on j1))); (try (replace M57 := Lib.hid (M57.out.on j1))); (try (replace M60 := Lib.hid (M60.out.on j1))); (try clear M41); have M41 := Lib.hid hmm; clear hmm; clear j1) | (go_at_call 35; with_reducible refine (sameB_any _ _ _ M38.out HFO.out M41.out (HZ5.out _ (show Kept (fun _ => False) w5 _ from (by first | exact KC.out | exact Kept.refl _ _ | exact (Kept.refl _ _).drew)))).mono ?_; rintro e qq ⟨rfl, j1⟩; have KD := Lib.hid (Kept.then (show Kept (fun _ => False) w5 _ from (by first | exact KC.out | exact Kept.refl _ _ | exact (Kept.refl _ _).drew)) j1); (try clear KC); have KC := KD; clear KD; (try (replace M38 := Lib.hid (M38.out.on j1))); (try (replace M41 := Lib.hid (M41.out.on j1))); (try (replace M47 := Lib.hid (M47.out.on j1))); (try (replace M50 := Lib.hid (M50.out.on j1))); (try (replace M57 := Lib.hid (M57.out.on j1))); (try (replace M60 := Lib.hid (M60.out.on j1))); clear j1) | (go_at_call 21; with_reducible refine (and_M _ _ _ (HMA.out _ (show Kept (fun _ => False) w5 _ from (by first | exact KC.out | exact Kept.refl _ _ | exact (Kept.refl _ _).drew))) (HMB.out _ (show Kept (fun _ => False) w5 _ from (by first | exact KC.out | exact Kept.refl _ _ | exact (Kept.refl _ _).drew)))).mono ?_; rintro e qq ⟨v47, rfl, hmm, j1⟩; have KD := Lib.hid (Kept.then (show Kept (fun _ => False) w5 _ from (by first | exact KC.out | exact Kept.refl _ _ | exact (Kept.refl _ _).drew)) j1); (try clear KC); have KC := KD; clear KD; (try (replace M38 := Lib.hid (M38.out.on j1))); (try (replace M41 := Lib.hid (M41.out.on j1))); (try (replace M47 := Lib.hid (M47.out.on j1))); (try (replace M50 := Lib.hid (M50.out.on j1))); (try (replace M57 := Lib.hid (M57.out.on j1))); (try (replace M60 := Lib.hid (M60.out.on j1))); (try clear M47); have M47 := Lib.hid hmm; clear hmm; clear j1) | (go_at_call 40; with_reducible refine (andB_any _ _ _ (HSA.out _ (show Kept (fun _ => False) w5 _ from (by first | exact KC.out | exact Kept.refl _ _ | exact (Kept.refl _ _).drew))) (HSB.out _ (show Kept (fun _ => False) w5 _ from (by first | exact KC.out | exact Kept.refl _ _ | exact (Kept.refl _ _).drew)))).mono ?_; rintro e qq ⟨v50, rfl, hmm, j1⟩; have KD := Lib.hid (Kept.then (show Kept (fun _ => False) w5 _ from (by first | exact KC.out | exact Kept.refl _ _ | exact (Kept.refl _ _).drew)) j1); (try clear KC); have KC := KD; clear KD; (try (replace M38 := Lib.hid (M38.out.on j1))); (try (replace M41 := Lib.hid (M41.out.on j1))); (try (replace M47 := Lib.hid (M47.out.on j1))); (try (replace M50 := Lib.hid (M50.out.on j1))); (try (replace M57 := Lib.hid (M57.out.on j1))); (try (replace M60 := Lib.hid (M60.out.on j1))); (try clear M50); have M50 := Lib.hid hmm; clear hmm; clear j1) | (go_at_call 35; with_reducible refine (sameB_any _ _ _ M47.out HFN.out M50.out (HZ5.out _ (show Kept (fun _ => False) w5 _ from (by first | exact KC.out | exact Kept.refl _ _ | exact (Kept.refl _ _).drew)))).mono ?_; rintro e qq ⟨rfl, j1⟩; have KD := Lib.hid (Kept.then (show Kept (fun _ => False) w5 _ from (by first | exact KC.out | exact Kept.refl _ _ | exact (Kept.refl _ _).drew)) j1); (try clear KC); have KC := KD; clear KD; (try (replace M38 := Lib.hid (M38.out.on j1))); (try (replace M41 := Lib.hid (M41.out.on j1))); (try (replace M47 := Lib.hid (M47.out.on j1))); (try (replace M50 := Lib.hid (M50.out.on j1))); (try (replace M57 := Lib.hid (M57.out.on j1))); (try (replace M60 := Lib.hid (M60.out.on j1))); clear j1) | (go_at_call 22; with_reducible refine (minus_M _ _ _ (HMA.out _ (show Kept (fun _ => False) w5 _ from (by first | exact KC.out | exact Kept.refl _ _ | exact (Kept.refl _ _).drew))) (HMB.out _ (show Kept (fun _ => False) w5 _ from (by first | exact KC.out | exact Kept.refl _ _ | exact (Kept.refl _ _).drew)))).mono ?_; rintro e qq ⟨v57, rfl, hmm, j1⟩; have KD := Lib.hid (Kept.then (show Kept (fun _ => False) w5 _ from (by first | exact KC.out | exact Kept.refl _ _ | exact (Kept.refl _ _).drew)) j1); (try clear KC); have KC := KD; clear KD; (try (replace M38 := Lib.hid (M38.out.on j1))); (try (replace M41 := Lib.hid (M41.out.on j1))); (try (replace M47 := Lib.hid (M47.out.on j1))); (try (replace M50 := Lib.hid (M50.out.on j1))); (try (replace M57 := Lib.hid (M57.out.on j1))); (try (replace M60 := Lib.hid (M60.out.on j1))); (try clear M57); have M57 := Lib.hid hmm; clear hmm; clear j1) | (go_at_call 34; with_reducible refine (minusB_any _ _ _ (HSA.out _ (show Kept (fun _ => False) w5 _ from (by first | exact KC.out | exact Kept.refl _ _ | exact (Kept.refl _ _).drew))) (HSB.out _ (show Kept (fun _ => False) w5 _ from (by first | exact KC.out | exact Kept.refl _ _ | exact (Kept.refl _ _).drew)))).mono ?_; rintro e qq ⟨v60, rfl, hmm, j1⟩; have KD := Lib.hid (Kept.then (show Kept (fun _ => False) w5 _ from (by first | exact KC.out | exact Kept.refl _ _ | exact (Kept.refl _ _).drew)) j1); (try clear KC); have KC := KD; clear KD; (try (replace M38 := Lib.hid (M38.out.on j1))); (try (replace M41 := Lib.hid (M41.out.on j1))); (try (replace M47 := Lib.hid (M47.out.on j1))); (try (replace M50 := Lib.hid (M50.out.on j1))); (try (replace M57 := Lib.hid (M57.out.on j1))); (try (replace M60 := Lib.hid (M60.out.on j1))); (try clear M60); have M60 := Lib.hid hmm; clear hmm; clear j1) | (go_at_call 35; with_reducible refine (sameB_any _ _ _ M57.out HFM.out M60.out (HZ5.out _ (show Kept (fun _ => False) w5 _ from (by first | exact KC.out | exact Kept.refl _ _ | exact (Kept.refl _ _).drew)))).mono ?_; rintro e qq ⟨rfl, j1⟩; have KD := Lib.hid (Kept.then (show Kept (fun _ => False) w5 _ from (by first | exact KC.out | exact Kept.refl _ _ | exact (Kept.refl _ _).drew)) j1); (try clear KC); have KC := KD; clear KD; (try (replace M38 := Lib.hid (M38.out.on j1))); (try (replace M41 := Lib.hid (M41.out.on j1))); (try (replace M47 := Lib.hid (M47.out.on j1))); (try (replace M50 := Lib.hid (M50.out.on j1))); (try (replace M57 := Lib.hid (M57.out.on j1))); (try (replace M60 := Lib.hid (M60.out.on j1))); clear j1) | (go_at_call 28; with_reducible refine (dWithinB_any _ _ _ bW (HMA.out _ (show Kept (fun _ => False) w5 _ from (by first | exact KC.out | exact Kept.refl _ _ | exact (Kept.refl _ _).drew))) (HMB.out _ (show Kept (fun _ => False) w5 _ from (by first | exact KC.out | exact Kept.refl _ _ | exact (Kept.refl _ _).drew))) HFA.out HFB.out HBW.out).mono ?_; rintro e qq ⟨rfl, j1⟩; have KD := Lib.hid (Kept.then (show Kept (fun _ => False) w5 _ from (by first | exact KC.out | exact Kept.refl _ _ | exact (Kept.refl _ _).drew)) j1); (try clear KC); have KC := KD; clear KD; (try (replace M38 := Lib.hid (M38.out.on j1))); (try (replace M41 := Lib.hid (M41.out.on j1))); (try (replace M47 := Lib.hid (M47.out.on j1))); (try (replace M50 := Lib.hid (M50.out.on j1))); (try (replace M57 := Lib.hid (M57.out.on j1))); (try (replace M60 := Lib.hid (M60.out.on j1))); clear j1) | (go_at_call 41; with_reducible refine (withinB_any _ _ _ bW (HSA.out _ (show Kept (fun _ => False) w5 _ from (by first | exact KC.out | exact Kept.refl _ _ | exact (Kept.refl _ _).drew))) (HSB.out _ (show Kept (fun _ => False) w5 _ from (by first | exact KC.out | exact Kept.refl _ _ | exact (Kept.refl _ _).drew))) HBW.out).mono ?_; rintro e qq ⟨rfl, j1⟩; have KD := Lib.hid (Kept.then (show Kept (fun _ => False) w5 _ from (by first | exact KC.out | exact Kept.refl _ _ | exact (Kept.refl _ _).drew)) j1); (try clear KC); have KC := KD; clear KD; (try (replace M38 := Lib.hid (M38.out.on j1))); (try (replace M41 := Lib.hid (M41.out.on j1))); (try (replace M47 := Lib.hid (M47.out.on j1))); (try (replace M50 := Lib.hid (M50.out.on j1))); (try (replace M57 := Lib.hid (M57.out.on j1))); (try (replace M60 := Lib.hid (M60.out.on j1))); clear j1) | (go_at_call 15; with_reducible refine (dEqualB_any _ _ _ bQ (HMA.out _ (show Kept (fun _ => False) w5 _ from (by first | exact KC.out | exact Kept.refl _ _ | exact (Kept.refl _ _).drew))) (HMB.out _ (show Kept (fun _ => False) w5 _ from (by first | exact KC.out | exact Kept.refl _ _ | exact (Kept.refl _ _).drew))) HFA.out HFB.out HBQ.out).mono ?_; rintro e qq ⟨rfl, j1⟩; have KD := Lib.hid (Kept.then (show Kept (fun _ => False) w5 _ from (by first | exact KC.out | exact Kept.refl _ _ | exact (Kept.refl _ _).drew)) j1); (try clear KC); have KC := KD; clear KD; (try (replace M38 := Lib.hid (M38.out.on j1))); (try (replace M41 := Lib.hid (M41.out.on j1))); (try (replace M47 := Lib.hid (M47.out.on j1))); (try (replace M50 := Lib.hid (M50.out.on j1))); (try (replace M57 := Lib.hid (M57.out.on j1))); (try (replace M60 := Lib.hid (M60.out.on j1))); clear j1) | (go_at_call 42; with_reducible refine (equalB_any _ _ _ bQ (HSA.out _ (show Kept (fun _ => False) w5 _ from (by first | exact KC.out | exact Kept.refl _ _ | exact (Kept.refl _ _).drew))) (HSB.out _ (show Kept (fun _ => False) w5 _ from (by first | exact KC.out | exact Kept.refl _ _ | exact (Kept.refl _ _).drew))) HBQ.out).mono ?_; rintro e qq ⟨rfl, j1⟩; have KD := Lib.hid (Kept.then (show Kept (fun _ => False) w5 _ from (by first | exact KC.out | exact Kept.refl _ _ | exact (Kept.refl _ _).drew)) j1); (try clear KC); have KC := KD; clear KD; (try (replace M38 := Lib.hid (M38.out.on j1))); (try (replace M41 := Lib.hid (M41.out.on j1))); (try (replace M47 := Lib.hid (M47.out.on j1))); (try (replace M50 := Lib.hid (M50.out.on j1))); (try (replace M57 := Lib.hid (M57.out.on j1))); (try (replace M60 := Lib.hid (M60.out.on j1))); clear j1) | (go_at_call 14; with_reducible refine (dEmptyB_any _ _ bE M47.out HFN.out HBE.out).mono ?_; rintro e qq ⟨rfl, j1⟩; have KD := Lib.hid (Kept.then (show Kept (fun _ => False) w5 _ from (by first | exact KC.out | exact Kept.refl _ _ | exact (Kept.refl _ _).drew)) j1); (try clear KC); have KC := KD; clear KD; (try (replace M38 := Lib.hid (M38.out.on j1))); (try (replace M41 := Lib.hid (M41.out.on j1))); (try (replace M47 := Lib.hid (M47.out.on j1))); (try (replace M50 := Lib.hid (M50.out.on j1))); (try (replace M57 := Lib.hid (M57.out.on j1))); (try (replace M60 := Lib.hid (M60.out.on j1))); clear j1) | (go_at_call 43; with_reducible refine (meetsB_any _ _ _ bE (HSA.out _ (show Kept (fun _ => False) w5 _ from (by first | exact KC.out | exact Kept.refl _ _ | exact (Kept.refl _ _).drew))) (HSB.out _ (show Kept (fun _ => False) w5 _ from (by first | exact KC.out | exact Kept.refl _ _ | exact (Kept.refl _ _).drew))) HBE.out).mono ?_; rintro e qq ⟨rfl, j1⟩; have KD := Lib.hid (Kept.then (show Kept (fun _ => False) w5 _ from (by first | exact KC.out | exact Kept.refl _ _ | exact (Kept.refl _ _).drew)) j1); (try clear KC); have KC := KD; clear KD; (try (replace M38 := Lib.hid (M38.out.on j1))); (try (replace M41 := Lib.hid (M41.out.on j1))); (try (replace M47 := Lib.hid (M47.out.on j1))); (try (replace M50 := Lib.hid (M50.out.on j1))); (try (replace M57 := Lib.hid (M57.out.on j1))); (try (replace M60 := Lib.hid (M60.out.on j1))); clear j1)))
  all_goals
    have HE := Lib.hid (HK5.out.then KC.out)
    clear KC
    go_wp2_with fail
    go_ret
    exact ⟨rfl, HE.out⟩
end Go.Proofs.YtjglnpijngdpkaaDoor
