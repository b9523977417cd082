/-
  The readers of layer 2: Number of the reference; Number and Count of the program.
-/
import Derived.Test.YtnmcihfegbdipaaDoorRfC
namespace Go.Proofs.YtnmcihfegbdipaaDoor
open Go.RowKit

set_option maxRecDepth 100000 in
set_option maxHeartbeats 800000 in
theorem mnumber_neg (w : World) (mb : Nat) (v : Value) (xs : List Nat) (most : Int) (hneg : most < 0) (h : Rd w mb v xs 0) (hby : ∀ b ∈ xs, b < 256) :
    Calls Tryd.prog 61 #[.pointer (some ⟨mb, 0, none⟩), .int .i64 most] w fun e w' => e = .returned (.int .i64 0) ∧ ∃ v', Rd w' mb v' xs 1 ∧ v'.ownBlock = v.ownBlock ∧ Kept (fun k => k = mb) w w' := by
  have c1 := h.cell1; have f1 := h.free1; have hlt := h.lt
  have HR := Lib.hid (h.setErr 1)
  have HB := Lib.hid hby
  have KA := Lib.hid (Kept.setCell (fun k => k = mb) w ⟨mb, 1, none⟩ (.int .i64 1) rfl)
  have hg : max most 0 = 0 := by omega
  clear h hby
  go_enter Tryd.func61, Tryd.ntmps61
  go_wp2_with fail
  refine (muint_any _ mb v xs 1 0 HR.out HB.out).mono ?_
  rintro e w' ⟨rfl, v', hr, hv, hk⟩
  rw [show uintS xs 0 1 = (0, xs, 1) from if_neg (by decide)] at hr ⊢
  have HR2 := Lib.hid hr; have HV := Lib.hid hv; have HK := Lib.hid (KA.out.trans hk (T := fun k => k = mb) (fun _ _ h => h) (fun _ _ h => h))
  clear hr hv hk
  go_wp2_with fail
  go_ret
  exact ⟨rfl, v', HR2.out, HV.out, HK.out⟩
set_option maxRecDepth 100000 in
set_option maxHeartbeats 800000 in
theorem mnumber_ok (w : World) (mb : Nat) (v : Value) (xs : List Nat) (m : Nat) (hmost : m < 9223372036854775808) (h : Rd w mb v xs (0)) (hby : ∀ b ∈ xs, b < 256) :
    Calls Tryd.prog 61 #[.pointer (some ⟨mb, 0, none⟩), .int .i64 ((m : Int))] w fun e w' => e = .returned (.int .i64 (uintS xs m (0)).1) ∧ ∃ v', Rd w' mb v' (uintS xs m (0)).2.1 (uintS xs m (0)).2.2 ∧ v'.ownBlock = v.ownBlock ∧ Kept (fun k => k = mb) w w' := by
  have c1 := h.cell1
  have HB := Lib.hid (muint_any w mb v xs (0) m h hby)
  have hle := uint_most xs m (0)
  have hmm : max (m : Int) 0 = (m : Int) := by omega
  have hn : ¬ (m : Int) < 0 := by omega
  clear h hby
  generalize uintS xs m (0) = q at HB hle ⊢
  obtain ⟨n, left, er⟩ := q
  simp only at HB hle ⊢
  have hE : IntKind.i64.wrap (n : Int) = (n : Int) ∧ IntKind.u64.wrap (m : Int) = (m : Int) := ⟨IntWalk.i64_in _ (by omega), IntWalk.u64_in _ (by omega)⟩
  have HLE := Lib.hid hle
  clear hle hmost
  obtain ⟨hw, hw2⟩ := hE
  go_enter Tryd.func61, Tryd.ntmps61
  go_wp2_with fail
  refine HB.out.mono ?_
  rintro e w2 ⟨rfl, v', hr, hv, hk⟩
  have HV := Lib.hid hv; have HR := Lib.hid hr; have HK := Lib.hid hk
  clear hv hr hk
  go_wp2_with fail
  go_ret
  exact ⟨rfl, v', HR.out, HV.out, HK.out⟩
set_option maxRecDepth 100000 in
set_option maxHeartbeats 800000 in
theorem mnumber_bad (w : World) (mb : Nat) (v : Value) (xs : List Nat) (m : Nat) (err : Int) (hmost : m < 9223372036854775808) (he : (err == 0) = false) (h : Rd w mb v xs (err)) (hby : ∀ b ∈ xs, b < 256) :
    Calls Tryd.prog 61 #[.pointer (some ⟨mb, 0, none⟩), .int .i64 ((m : Int))] w fun e w' => e = .returned (.int .i64 (uintS xs m (err)).1) ∧ ∃ v', Rd w' mb v' (uintS xs m (err)).2.1 (uintS xs m (err)).2.2 ∧ v'.ownBlock = v.ownBlock ∧ Kept (fun k => k = mb) w w' := by
  have c1 := h.cell1
  have HB := Lib.hid (muint_any w mb v xs (err) m h hby)
  have hle := uint_most xs m (err)
  have hmm : max (m : Int) 0 = (m : Int) := by omega
  have hn : ¬ (m : Int) < 0 := by omega
  clear h hby
  generalize uintS xs m (err) = q at HB hle ⊢
  obtain ⟨n, left, er⟩ := q
  simp only at HB hle ⊢
  have hE : IntKind.i64.wrap (n : Int) = (n : Int) ∧ IntKind.u64.wrap (m : Int) = (m : Int) := ⟨IntWalk.i64_in _ (by omega), IntWalk.u64_in _ (by omega)⟩
  have HLE := Lib.hid hle
  clear hle hmost
  obtain ⟨hw, hw2⟩ := hE
  go_enter Tryd.func61, Tryd.ntmps61
  go_wp2_with fail
  refine HB.out.mono ?_
  rintro e w2 ⟨rfl, v', hr, hv, hk⟩
  have HV := Lib.hid hv; have HR := Lib.hid hr; have HK := Lib.hid hk
  clear hv hr hk
  go_wp2_with fail
  go_ret
  exact ⟨rfl, v', HR.out, HV.out, HK.out⟩
set_option maxRecDepth 100000 in
set_option maxHeartbeats 800000 in
theorem mnumber_bad0 (w : World) (mb : Nat) (v : Value) (xs : List Nat) (err most : Int) (hneg : most < 0) (he : (err == 0) = false) (h : Rd w mb v xs (err)) (hby : ∀ b ∈ xs, b < 256) :
    Calls Tryd.prog 61 #[.pointer (some ⟨mb, 0, none⟩), .int .i64 (most)] w fun e w' => e = .returned (.int .i64 (uintS xs 0 (err)).1) ∧ ∃ v', Rd w' mb v' (uintS xs 0 (err)).2.1 (uintS xs 0 (err)).2.2 ∧ v'.ownBlock = v.ownBlock ∧ Kept (fun k => k = mb) w w' := by
  have c1 := h.cell1
  have HB := Lib.hid (muint_any w mb v xs (err) 0 h hby)
  have hle := uint_most xs 0 (err)
  have hmm : max most 0 = 0 := by omega
  clear h hby
  generalize uintS xs 0 (err) = q at HB hle ⊢
  obtain ⟨n, left, er⟩ := q
  simp only at HB hle ⊢
  have hw : IntKind.i64.wrap (n : Int) = (n : Int) := IntWalk.i64_in _ (by omega)
  clear hle
  go_enter Tryd.func61, Tryd.ntmps61
  go_wp2_with fail
  refine HB.out.mono ?_
  rintro e w2 ⟨rfl, v', hr, hv, hk⟩
  have HV := Lib.hid hv; have HR := Lib.hid hr; have HK := Lib.hid hk
  clear hv hr hk
  go_wp2_with fail
  go_ret
  exact ⟨rfl, v', HR.out, HV.out, HK.out⟩

/-- The reference's 'Number'. -/
theorem mnumber_any (w : World) (mb : Nat) (v : Value) (xs : List Nat) (err most : Int) (hmost : most < 9223372036854775808) (h : Rd w mb v xs err) (hby : ∀ b ∈ xs, b < 256) :
    Calls Tryd.prog 61 #[.pointer (some ⟨mb, 0, none⟩), .int .i64 most] w fun e w' =>
      e = .returned (.int .i64 (numI xs most err).1) ∧ ∃ v', Rd w' mb v' (numI xs most err).2.1 (numI xs most err).2.2 ∧ v'.ownBlock = v.ownBlock ∧ Kept (fun k => k = mb) w w' := by
  by_cases he : err = 0
  · subst he
    by_cases hn : most < 0
    · rw [show numI xs most 0 = (0, xs, 1) from if_pos ⟨rfl, hn⟩]
      exact mnumber_neg w mb v xs most hn h hby
    · obtain ⟨m, rfl⟩ : ∃ m : Nat, most = (m : Int) := ⟨most.toNat, by omega⟩
      rw [show numI xs (m : Int) 0 = uintS xs m 0 from if_neg fun h => hn h.2]
      exact mnumber_ok w mb v xs m (by omega) h hby
  · by_cases hn : most < 0
    · rw [show numI xs most err = uintS xs 0 err from (if_neg fun h => he h.1).trans (by rw [show most.toNat = 0 by omega])]
      exact mnumber_bad0 w mb v xs err most hn (by simpa using he) h hby
    · obtain ⟨m, rfl⟩ : ∃ m : Nat, most = (m : Int) := ⟨most.toNat, by omega⟩
      rw [show numI xs (m : Int) err = uintS xs m err from if_neg fun h => he h.1]
      exact mnumber_bad w mb v xs m err (by omega) (by simpa using he) h hby

set_option maxRecDepth 100000 in
set_option maxHeartbeats 800000 in
theorem wcount_nat (w : World) (rb : Nat) (v : Value) (xs : List Nat) (m : Nat) (hmost : m < 9223372036854775808) (h : Rd w rb v xs 0) (hby : ∀ b ∈ xs, b < 256) :
    Calls Tryd.prog 71 #[.pointer (some ⟨rb, 0, none⟩), .int .i64 m] w fun e w' => e = .returned (.int .i64 (boundedS xs m 3 0).1) ∧
      ∃ v', Rd w' rb v' (boundedS xs m 3 0).2.1 (boundedS xs m 3 0).2.2 ∧ v'.ownBlock = v.ownBlock ∧ Kept (fun k => k = rb) w w' := by
  have hrf := readyFor_any w rb v xs 0 m h
  rw [show forErr (m : Int) 0 = 0 from if_neg (by omega), show decide ((0 : Int) = 0) = true from rfl] at hrf
  have HB := Lib.hid (fun (W : World) (hr : Rd W rb v xs 0) => bounded_any W rb v xs 0 3 m hr hby)
  have hle := bounded_most xs m 3 0
  have HRF := Lib.hid hrf
  clear hrf h hby
  generalize boundedS xs m 3 0 = q at HB hle ⊢
  obtain ⟨n, left, er⟩ := q
  simp only at HB hle ⊢
  have hE : IntKind.i64.wrap (n : Int) = (n : Int) ∧ IntKind.u64.wrap (m : Int) = (m : Int) := ⟨IntWalk.i64_in _ (by omega), IntWalk.u64_in _ (by omega)⟩
  have HLE := Lib.hid hle
  clear hle hmost
  obtain ⟨hw, hw2⟩ := hE
  go_enter Tryd.func71, Tryd.ntmps71
  go_wp2_with fail
  refine HRF.out.mono ?_
  rintro e w1 ⟨rfl, hr1, hk1⟩
  have HR1 := Lib.hid hr1; have HK1 := Lib.hid hk1
  clear hr1 hk1
  go_wp2_with fail
  refine (HB.out w1 HR1.out).mono ?_
  rintro e w2 ⟨rfl, v', hr, hv, hk⟩
  have HV := Lib.hid hv; have HR := Lib.hid hr
  have HK := Lib.hid (HK1.out.trans hk (T := fun k => k = rb) (fun _ _ h => h) (fun _ _ h => h))
  clear hv hr hk
  go_wp2_with fail
  go_ret
  exact ⟨rfl, v', HR.out, HV.out, HK.out⟩
set_option maxRecDepth 100000 in
set_option maxHeartbeats 800000 in
theorem wcount_no (w : World) (rb : Nat) (v : Value) (xs : List Nat) (err most : Int) (hf : forErr most err ≠ 0) (h : Rd w rb v xs err) :
    Calls Tryd.prog 71 #[.pointer (some ⟨rb, 0, none⟩), .int .i64 most] w fun e w' => e = .returned (.int .i64 0) ∧ Rd w' rb v xs (forErr most err) ∧ Kept (fun k => k = rb) w w' := by
  have hrf := readyFor_any w rb v xs err most h
  rw [show decide (forErr most err = 0) = false by simpa using hf] at hrf
  have HRF := Lib.hid hrf
  clear hrf h hf
  go_enter Tryd.func71, Tryd.ntmps71
  go_wp2_with fail
  refine HRF.out.mono ?_
  rintro e w1 ⟨rfl, hr1, hk1⟩
  have HR1 := Lib.hid hr1; have HK1 := Lib.hid hk1
  clear hr1 hk1
  go_wp2_with fail
  go_ret
  exact ⟨rfl, HR1.out, HK1.out⟩
theorem wcount_any (w : World) (rb : Nat) (v : Value) (xs : List Nat) (err most : Int) (hmost : most < 9223372036854775808) (h : Rd w rb v xs err) (hby : ∀ b ∈ xs, b < 256) :
    Calls Tryd.prog 71 #[.pointer (some ⟨rb, 0, none⟩), .int .i64 most] w fun e w' =>
      e = .returned (.int .i64 (cntI xs most err).1) ∧ ∃ v', Rd w' rb v' (cntI xs most err).2.1 (cntI xs most err).2.2 ∧ v'.ownBlock = v.ownBlock ∧ Kept (fun k => k = rb) w w' := by
  by_cases he : err = 0
  · subst he
    by_cases hn : most < 0
    · rw [show cntI xs most 0 = (0, xs, 1) from if_pos ⟨rfl, hn⟩]
      have hf : forErr most 0 = 1 := if_pos ⟨hn, rfl⟩
      refine (wcount_no w rb v xs 0 most (by rw [hf]; decide) h).mono ?_
      rintro e w' ⟨rfl, hr, hk⟩
      rw [hf] at hr
      exact ⟨rfl, v, hr, rfl, hk⟩
    · obtain ⟨m, rfl⟩ : ∃ m : Nat, most = (m : Int) := ⟨most.toNat, by omega⟩
      rw [show cntI xs (m : Int) 0 = boundedS xs m 3 0 from (if_neg fun h => hn h.2).trans (if_pos rfl)]
      exact wcount_nat w rb v xs m (by omega) h hby
  · rw [show cntI xs most err = (0, xs, err) from (if_neg fun h => he h.1).trans (if_neg he)]
    have hf : forErr most err = err := if_neg fun h => he h.2
    refine (wcount_no w rb v xs err most (by rw [hf]; exact he) h).mono ?_
    rintro e w' ⟨rfl, hr, hk⟩
    rw [hf] at hr
    exact ⟨rfl, v, hr, rfl, hk⟩

set_option maxRecDepth 100000 in
set_option maxHeartbeats 800000 in
theorem wnumber_nat (w : World) (rb : Nat) (v : Value) (xs : List Nat) (m : Nat) (hmost : m < 9223372036854775808) (h : Rd w rb v xs 0) (hby : ∀ b ∈ xs, b < 256) :
    Calls Tryd.prog 60 #[.pointer (some ⟨rb, 0, none⟩), .int .i64 m] w fun e w' => e = .returned (.int .i64 (boundedS xs m 2 0).1) ∧
      ∃ v', Rd w' rb v' (boundedS xs m 2 0).2.1 (boundedS xs m 2 0).2.2 ∧ v'.ownBlock = v.ownBlock ∧ Kept (fun k => k = rb) w w' := by
  have hrf := readyFor_any w rb v xs 0 m h
  rw [show forErr (m : Int) 0 = 0 from if_neg (by omega), show decide ((0 : Int) = 0) = true from rfl] at hrf
  have HB := Lib.hid (fun (W : World) (hr : Rd W rb v xs 0) => bounded_any W rb v xs 0 2 m hr hby)
  have hle := bounded_most xs m 2 0
  have HRF := Lib.hid hrf
  clear hrf h hby
  generalize boundedS xs m 2 0 = q at HB hle ⊢
  obtain ⟨n, left, er⟩ := q
  simp only at HB hle ⊢
  have hE : IntKind.i64.wrap (n : Int) = (n : Int) ∧ IntKind.u64.wrap (m : Int) = (m : Int) := ⟨IntWalk.i64_in _ (by omega), IntWalk.u64_in _ (by omega)⟩
  have HLE := Lib.hid hle
  clear hle hmost
  obtain ⟨hw, hw2⟩ := hE
  go_enter Tryd.func60, Tryd.ntmps60
  go_wp2_with fail
  refine HRF.out.mono ?_
  rintro e w1 ⟨rfl, hr1, hk1⟩
  have HR1 := Lib.hid hr1; have HK1 := Lib.hid hk1
  clear hr1 hk1
  go_wp2_with fail
  refine (HB.out w1 HR1.out).mono ?_
  rintro e w2 ⟨rfl, v', hr, hv, hk⟩
  have HV := Lib.hid hv; have HR := Lib.hid hr
  have HK := Lib.hid (HK1.out.trans hk (T := fun k => k = rb) (fun _ _ h => h) (fun _ _ h => h))
  clear hv hr hk
  go_wp2_with fail
  go_ret
  exact ⟨rfl, v', HR.out, HV.out, HK.out⟩
set_option maxRecDepth 100000 in
set_option maxHeartbeats 800000 in
theorem wnumber_no (w : World) (rb : Nat) (v : Value) (xs : List Nat) (err most : Int) (hf : forErr most err ≠ 0) (h : Rd w rb v xs err) :
    Calls Tryd.prog 60 #[.pointer (some ⟨rb, 0, none⟩), .int .i64 most] w fun e w' => e = .returned (.int .i64 0) ∧ Rd w' rb v xs (forErr most err) ∧ Kept (fun k => k = rb) w w' := by
  have hrf := readyFor_any w rb v xs err most h
  rw [show decide (forErr most err = 0) = false by simpa using hf] at hrf
  have HRF := Lib.hid hrf
  clear hrf h hf
  go_enter Tryd.func60, Tryd.ntmps60
  go_wp2_with fail
  refine HRF.out.mono ?_
  rintro e w1 ⟨rfl, hr1, hk1⟩
  have HR1 := Lib.hid hr1; have HK1 := Lib.hid hk1
  clear hr1 hk1
  go_wp2_with fail
  go_ret
  exact ⟨rfl, HR1.out, HK1.out⟩
theorem wnumber_any (w : World) (rb : Nat) (v : Value) (xs : List Nat) (err most : Int) (hmost : most < 9223372036854775808) (h : Rd w rb v xs err) (hby : ∀ b ∈ xs, b < 256) :
    Calls Tryd.prog 60 #[.pointer (some ⟨rb, 0, none⟩), .int .i64 most] w fun e w' =>
      e = .returned (.int .i64 (numI xs most err).1) ∧ ∃ v', Rd w' rb v' (numI xs most err).2.1 (numI xs most err).2.2 ∧ v'.ownBlock = v.ownBlock ∧ Kept (fun k => k = rb) w w' := by
  by_cases he : err = 0
  · subst he
    by_cases hn : most < 0
    · rw [show numI xs most 0 = (0, xs, 1) from if_pos ⟨rfl, hn⟩]
      have hf : forErr most 0 = 1 := if_pos ⟨hn, rfl⟩
      refine (wnumber_no w rb v xs 0 most (by rw [hf]; decide) h).mono ?_
      rintro e w' ⟨rfl, hr, hk⟩
      rw [hf] at hr
      exact ⟨rfl, v, hr, rfl, hk⟩
    · obtain ⟨m, rfl⟩ : ∃ m : Nat, most = (m : Int) := ⟨most.toNat, by omega⟩
      rw [show numI xs (m : Int) 0 = boundedS xs m 2 0 from (if_neg fun h => hn h.2).trans (if_pos rfl)]
      exact wnumber_nat w rb v xs m (by omega) h hby
  · rw [show numI xs most err = (0, xs, err) from (if_neg fun h => he h.1).trans (if_neg he)]
    have hf : forErr most err = err := if_neg fun h => he h.2
    refine (wnumber_no w rb v xs err most (by rw [hf]; exact he) h).mono ?_
    rintro e w' ⟨rfl, hr, hk⟩
    rw [hf] at hr
    exact ⟨rfl, v, hr, rfl, hk⟩

end Go.Proofs.YtnmcihfegbdipaaDoor
