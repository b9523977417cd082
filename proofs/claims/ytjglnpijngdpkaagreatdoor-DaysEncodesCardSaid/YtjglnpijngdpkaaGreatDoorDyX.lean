import Derived.Test.YtjglnpijngdpkaaGreatDoorDyCa
import Derived.Test.YtjglnpijngdpkaaGreatDoorDyCm
/-
  Days: Or, And, Minus, Not, Empty, Within.
-/
namespace Go.Proofs.YtjglnpijngdpkaaGreatDoor
open Go.RowKit
set_option linter.unusedSimpArgs false
set_option linter.unusedVariables false
set_option maxRecDepth 100000

theorem rowG_setCell {w : World} {row v x : Value} {t : List Int} {g : Nat} (h : RowG EI w row t) (hc : w.cell? ⟨g, 0, none⟩ = some x) (hx : ∀ n, x ≠ .int .i64 n) : RowG EI (w.setCell ⟨g, 0, none⟩ v) row t := by
  rcases h with h | ⟨b, off, cap, rfl, h1, h2, h3, h4⟩
  · exact Or.inl h
  · refine Or.inr ⟨b, off, cap, rfl, h1, h2, by rw [World.size_setCell]; exact h3, fun i hi j u hu => ?_⟩
    have hcell := h4 i hi j u hu
    have hu2 : ∃ n, u = .int .i64 n := by
      have hm := List.mem_of_getElem? hu
      simp only [EI, List.mem_singleton] at hm
      exact ⟨_, hm⟩
    obtain ⟨n, rfl⟩ := hu2
    refine (World.cell?_setCell_other _ _ _ _ fun e => ?_).trans hcell
    rw [← e, hc] at hcell
    injection hcell with he
    exact hx n he
/-- A set that is put into the cell of a result. -/
theorem ret_set {w0 w w2 : World} {g : Nat} {v x : Value} {t : List Int} (hk0 : Kept (fun _ => False) w0 w) (hg : w0.heap.size ≤ g) (hc : w.cell? ⟨g, 0, none⟩ = some x) (hf : w.frozen? ⟨g, 0, none⟩ = false) (hx : ∀ n, x ≠ .int .i64 n) (k2 : Kept (fun _ => False) w w2) (h : SetD w2 v t) :
    ∃ a c, v = .agg #[.slice a t.length c] ∧ w2.cell? ⟨g, 0, none⟩ = some x ∧ w2.frozen? ⟨g, 0, none⟩ = false ∧ (w2.setCell ⟨g, 0, none⟩ (.slice a t.length c)).cell? ⟨g, 0, none⟩ = some (.slice a t.length c) ∧ SetD (w2.setCell ⟨g, 0, none⟩ (.slice a t.length c)) (.agg #[.slice a t.length c]) t ∧ Kept (fun _ => False) w0 (w2.setCell ⟨g, 0, none⟩ (.slice a t.length c)) := by
  obtain ⟨row, rfl, hr, hcn⟩ := h
  obtain ⟨a, c, rfl, _, _⟩ := hr.form
  have hlt := World.block_lt_of_cell? w _ hc
  have hc2 : w2.cell? ⟨g, 0, none⟩ = some x := (k2.cell hlt (fun h => h)).trans hc
  refine ⟨a, c, rfl, hc2, ?_, World.cell?_setCell_same _ _ _ hc2, ⟨_, rfl, rowG_setCell hr hc2 hx, hcn⟩, (hk0.then k2).trans (Kept.setCell (fun k => k = g) w2 _ _ rfl) (fun _ _ h => h) (fun i hi e => by omega)⟩
  rw [← hf]
  unfold World.frozen?
  rw [k2.block _ hlt (fun h => h)]

set_option maxHeartbeats 1600000 in
theorem dayMinus_any (s o : Value) (t u : List Int) (w0 : World) (hs : SetD w0 s t) (ho : SetD w0 o u) :
    Calls Tryz.prog 60 #[s, o] w0 fun e w' => ∃ v r, e = .returned v ∧ SetD w' v r ∧ (∀ d, inD r d = fMinus (inD t d) (inD u d)) ∧ Kept (fun _ => False) w0 w' := by
  have hsW := hs; have hoW := ho
  obtain ⟨sv, rfl, hr0, hcs⟩ := hs
  obtain ⟨ov, rfl, hr1, hco⟩ := ho
  obtain ⟨sa, sc, hsf, _, _⟩ := hr0.form
  obtain ⟨oa, oc, hof, _, _⟩ := hr1.form
  subst hsf hof
  have HKA := Lib.hid (((Kept.alloc (fun _ => False) w0 (.cells #[.slice sa t.length sc] 26)).then (Kept.alloc (fun _ => False) _ (.cells #[.slice oa u.length oc] 26))).then (Kept.alloc (fun _ => False) _ (.cells #[.slice none 0 0] 26)))
  have HCB := Lib.hid (combMinus_any _ _ t u _ (hsW.on HKA.out) (hoW.on HKA.out))
  have HCS : Hid (((((w0.alloc (.cells #[.slice sa t.length sc] 26)).alloc (.cells #[.slice oa u.length oc] 26)).alloc (.cells #[.slice none 0 0] 26)).cell? ⟨w0.heap.size + 1 + 1, 0, none⟩ = some (.slice none 0 0)) ∧ ((((w0.alloc (.cells #[.slice sa t.length sc] 26)).alloc (.cells #[.slice oa u.length oc] 26)).alloc (.cells #[.slice none 0 0] 26)).frozen? ⟨w0.heap.size + 1 + 1, 0, none⟩ = false)) := Lib.hid ⟨by go_simp, by go_simp⟩
  clear hsW hoW hr0 hr1 hcs hco
  go_enter Tryz.func60, Tryz.ntmps60
  go_wp2_with fail
  refine HCB.out.mono ?_
  generalize ((w0.alloc (.cells #[.slice sa t.length sc] 26)).alloc (.cells #[.slice oa u.length oc] 26)).alloc (.cells #[.slice none 0 0] 26) = w at *
  rintro e w2 ⟨v, r, rfl, h1, h2, k2⟩
  obtain ⟨ra, rc, rfl, c2, f2, r0, hset, hkk⟩ := ret_set HKA.out (g := w0.heap.size + 1 + 1) (by omega) HCS.out.1 HCS.out.2 (fun n h => by cases h) k2 h1
  have HSET := Lib.hid hset; have HKK := Lib.hid hkk; have H2 := Lib.hid h2
  clear hset hkk h1 h2 k2 HCB
  go_wp2_with fail
  refine bodyPost_ret (v := .agg #[.slice ra r.length rc]) (by simp [results, Tryz.results60, go_sem, r0]) rfl (by first | exact ⟨_, r, rfl, HSET.out, H2.out, HKK.out⟩ | exact ⟨_, rfl, r, HSET.out, H2.out, HKK.out⟩)

set_option maxHeartbeats 1600000 in
theorem dayEmpty_any (s : Value) (t : List Int) (w0 : World) (hs : SetD w0 s t) :
    Calls Tryz.prog 14 #[s] w0 fun e w' => e = .returned (.bool (decide (t = []))) ∧ Kept (fun _ => False) w0 w' := by
  obtain ⟨sv, rfl, hr0, hcs⟩ := hs
  obtain ⟨sa, sc, hsf, h1, _⟩ := hr0.form
  subst hsf
  have HKA := Lib.hid (Kept.alloc (fun _ => False) w0 (.cells #[.slice sa t.length sc] 26))
  obtain ⟨b, hb⟩ : ∃ b, b = decide (t = []) := ⟨_, rfl⟩
  rw [← hb]
  have hbl : b = decide (t.length = 0) := by rw [hb, Bool.eq_iff_iff, decide_eq_true_iff, decide_eq_true_iff, List.length_eq_zero_iff]
  generalize t.length = L at *
  clear hr0 hcs hb
  go_enter Tryz.func14, Tryz.ntmps14
  by_cases h0 : L = 0
  · rw [decide_eq_true h0] at hbl
    subst hbl h0
    go_wp2_with fail
    go_ret
    exact ⟨rfl, HKA.out⟩
  · rw [decide_eq_false h0] at hbl
    subst hbl
    have hz2 : ¬ (L : Int) = 0 := by omega
    have hz3 : ((L : Int) == 0) = false := by rw [beq_eq_false_iff_ne]; exact hz2
    go_wp2_with fail
    go_ret
    exact ⟨rfl, HKA.out⟩
set_option maxHeartbeats 1600000 in
theorem dayNot_any (s : Value) (t : List Int) (w0 : World) (hs : SetD w0 s t) :
    Calls Tryz.prog 29 #[s] w0 fun e w' => ∃ v r, e = .returned v ∧ SetD w' v r ∧ (∀ d, 0 ≤ d → d ≤ 30000 → inD r d = !inD t d) ∧ Kept (fun _ => False) w0 w' := by
  have hsW := hs
  obtain ⟨sv, rfl, hr0, hcs⟩ := hs
  obtain ⟨sa, sc, hsf, _, _⟩ := hr0.form
  subst hsf
  have HKA := Lib.hid ((Kept.alloc (fun _ => False) w0 (.cells #[.slice sa t.length sc] 26)).then (Kept.alloc (fun _ => False) _ (.cells #[.slice none 0 0] 26)))
  have HSW := Lib.hid hsW
  have HCS : Hid (((((w0.alloc (.cells #[.slice sa t.length sc] 26)).alloc (.cells #[.slice none 0 0] 26)).cell? ⟨w0.heap.size, 0, none⟩ = some (.slice sa t.length sc)) ∧ ((w0.alloc (.cells #[.slice sa t.length sc] 26)).alloc (.cells #[.slice none 0 0] 26)).cell? ⟨w0.heap.size + 1, 0, none⟩ = some (.slice none 0 0)) ∧ (((w0.alloc (.cells #[.slice sa t.length sc] 26)).alloc (.cells #[.slice none 0 0] 26)).frozen? ⟨w0.heap.size + 1, 0, none⟩ = false)) := Lib.hid ⟨⟨by go_simp, by go_simp⟩, by go_simp⟩
  clear hsW hr0 hcs
  go_enter Tryz.func29, Tryz.ntmps29
  go_wp2_with fail
  generalize (w0.alloc (.cells #[.slice sa t.length sc] 26)).alloc (.cells #[.slice none 0 0] 26) = w at *
  obtain ⟨Q, hQ⟩ : ∃ Q, Q = w0.heap.size := ⟨_, rfl⟩
  have HQ := Lib.hid hQ
  rw [← hQ] at HCS ⊢
  have HC : Hid (∀ W, Kept (fun _ => False) w W → W.cell? ⟨Q, 0, none⟩ = some (.slice sa t.length sc) ∧ W.cell? ⟨Q + 1, 0, none⟩ = some (.slice none 0 0) ∧ W.frozen? ⟨Q + 1, 0, none⟩ = false) := Lib.hid fun W hk => by
    obtain ⟨⟨a0, a1⟩, a2⟩ := HCS.out
    refine ⟨(hk.cell (World.block_lt_of_cell? w _ a0) (fun h => h)).trans a0, (hk.cell (World.block_lt_of_cell? w _ a1) (fun h => h)).trans a1, ?_⟩
    rw [← a2]
    unfold World.frozen?
    rw [hk.block _ (World.block_lt_of_cell? w _ a1) (fun h => h)]
  have HAL : Hid (∀ W, Kept (fun _ => False) w W → Calls Tryz.prog 32 #[] W fun e w' => ∃ a c, e = .returned (.agg #[.slice a 2 c]) ∧ SetD w' (.agg #[.slice a 2 c]) allD ∧ Kept (fun _ => False) w w') := Lib.hid fun W hk => (allD_any W).mono fun e w' ⟨v, h1, h2, h3⟩ => by
    obtain ⟨row, h4, h5, h6⟩ := h2
    obtain ⟨a, c, h7, _, _⟩ := h5.form
    subst h4
    rw [show allD.length = 2 from rfl] at h7
    subst h7
    exact ⟨a, c, h1, ⟨_, rfl, h5, h6⟩, hk.then h3⟩
  have HMI : Hid (∀ W a c, Kept (fun _ => False) w W → SetD W (.agg #[.slice a 2 c]) allD → Calls Tryz.prog 60 #[.agg #[.slice a 2 c], .agg #[.slice sa t.length sc]] W fun e w' => ∃ a' c' r, e = .returned (.agg #[.slice a' r.length c']) ∧ SetD w' (.agg #[.slice a' r.length c']) r ∧ (∀ d, inD r d = fMinus (inD allD d) (inD t d)) ∧ Kept (fun _ => False) w w') := Lib.hid fun W a c hk h => (dayMinus_any _ _ allD t W h (HSW.out.on (HKA.out.then hk))).mono fun e w' ⟨v, r, h1, h2, h3, h4⟩ => by
    obtain ⟨row, h5, h6, h7⟩ := h2
    obtain ⟨a', c', h8, _, _⟩ := h6.form
    subst h5 h8
    exact ⟨a', c', r, h1, ⟨_, rfl, h6, h7⟩, h3, hk.then h4⟩
  obtain ⟨c0, c1, f1⟩ := HC.out w (Kept.refl _ _)
  clear hQ HCS
  go_region_with ((first | (go_at_call 32; with_reducible refine (HAL.out _ (by first | exact Kept.refl _ _ | exact (Kept.refl _ _).drew)).mono ?_; rintro e w3 ⟨a3, x3, rfl, h3, k3⟩; have H3 := Lib.hid h3; have K3 := Lib.hid k3; clear h3 c0 c1 f1; obtain ⟨c0, c1, f1⟩ := HC.out w3 k3; clear k3) | (go_at_call 60; with_reducible refine (HMI.out _ _ _ (by first | exact K3.out | exact K3.out.drew) (by first | exact H3.out | exact H3.out.on (Kept.refl _ _).drew)).mono ?_; rintro e w4 ⟨a4, x4, r4, rfl, h4, g4, k4⟩; have H4 := Lib.hid h4; have G4 := Lib.hid g4; have K4 := Lib.hid k4; clear h4 g4 c0 c1 f1; obtain ⟨c0, c1, f1⟩ := HC.out w4 k4; clear k4)))
  all_goals
    obtain ⟨ra, rc, hre, c2, f2, r0, hset, hkk⟩ := ret_set (g := Q + 1) HKA.out (by have := HQ.out; omega) (HC.out w (Kept.refl _ _)).2.1 (HC.out w (Kept.refl _ _)).2.2 (fun n h => by cases h) K4.out H4.out
    injection hre with hre
    injection hre with hre
    injection hre with hre _
    injection hre with e1 e2 e3
    subst e1 e3
    have HSET := Lib.hid hset; have HKK := Lib.hid hkk
    have HD : Hid (∀ d, 0 ≤ d → d ≤ 30000 → inD r4 d = !inD t d) := Lib.hid fun d h0 h1 => by rw [G4.out, inD_allD h0 h1]; rfl
    clear hset hkk
    go_wp2_with fail
    refine bodyPost_ret (v := .agg #[.slice a4 r4.length x4]) (by simp [results, Tryz.results29, go_sem, r0]) rfl ⟨_, rfl, r4, HSET.out, HD.out, HKK.out⟩
end Go.Proofs.YtjglnpijngdpkaaGreatDoor
