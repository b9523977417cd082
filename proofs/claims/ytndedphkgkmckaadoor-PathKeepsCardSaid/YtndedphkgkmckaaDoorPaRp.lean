/-
  Trees of paths: Remove.
-/
import Derived.Test.YtndedphkgkmckaaDoorPaAw
namespace Go.Proofs.YtndedphkgkmckaaDoor
open Go.RowKit Go.Maps Go.WideMaps Go.ChangeMaps
set_option linter.unusedSimpArgs false
set_option linter.unusedVariables false

/-- The paths without one. -/
def remT (ts : List ByteArray) (p : ByteArray) : List ByteArray := ts.filter fun q => (q.toList != p.toList)
theorem ne_list (q p : ByteArray) : (q.toList != p.toList) = decide (q ≠ p) := by
  have := str_eq q p
  unfold bne
  rw [this]; simp
theorem mem_remT {ts : List ByteArray} {p s : ByteArray} : s ∈ remT ts p ↔ s ≠ p ∧ s ∈ ts := by
  unfold remT
  rw [List.mem_filter, ne_list, decide_eq_true_iff]
  exact ⟨fun h => ⟨h.2, h.1⟩, fun h => ⟨h.2, h.1⟩⟩
theorem length_remT : ∀ {ts : List ByteArray} {p : ByteArray}, ts.Nodup → p ∈ ts → (remT ts p).length + 1 = ts.length
  | [], p, _, hm => by cases hm
  | x :: t, p, hn, hm => by
    rw [List.nodup_cons] at hn
    by_cases e : x = p
    · subst e
      have h2 : remT (x :: t) x = t := by
        unfold remT
        rw [List.filter_cons, ne_list, if_neg (by simp)]
        rw [List.filter_eq_self]
        intro a ha
        rw [ne_list, decide_eq_true_iff]
        rintro rfl
        exact hn.1 ha
      rw [h2]; simp
    · have hmt : p ∈ t := by
        rcases List.mem_cons.1 hm with h | h
        · exact absurd h.symm e
        · exact h
      have ih := length_remT hn.2 hmt
      have h2 : remT (x :: t) p = x :: remT t p := by
        unfold remT
        rw [List.filter_cons, ne_list, if_pos (by simpa using e)]
      rw [h2]; simp only [List.length_cons]; omega

theorem mapB_rem {D : DataW Unit} {ts : List ByteArray} {p : ByteArray} (h : MapB D (fun s => memS s ts)) : MapB (D.del (.string p.data.toList)) (fun s => memS s (remT ts p)) := by
  have h2 := h.del p
  have e : (fun s => decide (s ≠ p) && memS s ts) = fun s => memS s (remT ts p) := by
    funext s
    rw [Bool.eq_iff_iff, Bool.and_eq_true, decide_eq_true_iff, memS_iff, memS_iff, mem_remT]
  rw [e] at h2
  exact h2
theorem size_rem {D : DataW Unit} {ts : List ByteArray} {p : ByteArray} (h : MapB D (fun s => memS s ts)) (hD : Tidy D) (hs : Maps.size D = ts.length) (hn : ts.Nodup) (hp : p ∈ ts) : Maps.size (D.del (.string p.data.toList)) = (remT ts p).length := by
  have h1 := Maps.size_del (k := .string p.data.toList) hD
  have h2 := (h p).1
  rw [h2, if_pos ((memS_iff _ _).2 hp), hs] at h1
  have := length_remT hn hp
  omega

set_option maxRecDepth 100000 in
theorem remove_form (w : World) (g : Nat) (p : ByteArray) (hsz : p.size ≤ 1000000) (hp : (namesS p).isSome = false) :
    Calls Tryd.prog 21 #[.pointer (some ⟨g, 0, none⟩), .string p] w fun e w' => e = .returned (.tuple #[.pointer none, .int .i64 6]) ∧ Kept (fun _ => False) w w' := by
  have hv := pvalid_any p hsz w
  rw [hp] at hv
  have HV := Lib.hid hv
  clear hv hp
  go_enter Tryd.func21, Tryd.ntmps21
  go_wp2_with fail
  refine HV.out.mono ?_
  rintro e w1 ⟨rfl, hk1⟩
  have HK1 := Lib.hid hk1
  clear hk1
  go_wp2_with fail
  go_ret2
  exact ⟨rfl, HK1.out⟩

set_option maxRecDepth 100000 in
theorem remove_root (w : World) (g : Nat) (p : ByteArray) (hsz : p.size ≤ 1000000) (hp : (namesS p).isSome = true) (hne : p.toList = [47]) :
    Calls Tryd.prog 21 #[.pointer (some ⟨g, 0, none⟩), .string p] w fun e w' => e = .returned (.tuple #[.pointer none, .int .i64 1]) ∧ Kept (fun _ => False) w w' := by
  have hv := pvalid_any p hsz w
  rw [hp] at hv
  have HV := Lib.hid hv
  have e1b : (p.toList == [47]) = true := by rw [hne]; rfl
  clear hv hp
  go_enter Tryd.func21, Tryd.ntmps21
  go_wp2_with fail
  refine HV.out.mono ?_
  rintro e w1 ⟨rfl, hk1⟩
  have HK1 := Lib.hid hk1
  clear hk1
  go_wp2_with fail
  go_ret2
  exact ⟨rfl, HK1.out⟩

set_option maxRecDepth 100000 in
theorem remove_none (w : World) (g : Nat) (mv : Value) (ts : List ByteArray) (p : ByteArray) (h : TreeL w g mv ts) (hsz : p.size ≤ 1000000) (hp : (namesS p).isSome = true) (hne : ¬ p.toList = [47]) (hm : memS p ts = false) :
    Calls Tryd.prog 21 #[.pointer (some ⟨g, 0, none⟩), .string p] w fun e w' => e = .returned (.tuple #[.pointer none, .int .i64 4]) ∧ Kept (fun _ => False) w w' := by
  have hv := pvalid_any p hsz w
  rw [hp] at hv
  have HV := Lib.hid hv
  have e1b : (p.toList == [47]) = false := beq_eq_false_iff_ne.2 hne
  have HH := Lib.hid (fun W (hk : Kept (fun _ => False) w W) => has_any W g mv ts p (h.stay hk) hsz)
  have hhs : hasS ts p = false := by unfold hasS; rw [hm, e1b]; rfl
  rw [hhs] at HH
  clear hv hp hhs hm h
  go_enter Tryd.func21, Tryd.ntmps21
  go_wp2_with fail
  refine HV.out.mono ?_
  rintro e w1 ⟨rfl, hk1⟩
  have HH1 := Lib.hid (HH.out w1 hk1)
  have HK1 := Lib.hid hk1
  clear hk1
  go_wp2_with fail
  refine HH1.out.mono ?_
  rintro e w2 ⟨rfl, rfl⟩
  go_wp2_with fail
  go_ret2
  exact ⟨rfl, HK1.out⟩

set_option maxRecDepth 100000 in
set_option maxHeartbeats 1600000 in
theorem remove_ok (w : World) (g : Nat) (mv : Value) (ts : List ByteArray) (p : ByteArray) (h : TreeL w g mv ts) (hts : ∀ s ∈ ts, IsPath s) (hnd : ts.Nodup) (hl : ts.length ≤ 50000) (hsz : p.size ≤ 1000000) (hp : (namesS p).isSome = true) (hne : ¬ p.toList = [47]) (hm : memS p ts = true) (hch : ∀ c, c ∈ ts → keepCh p c = false) :
    Calls Tryd.prog 21 #[.pointer (some ⟨g, 0, none⟩), .string p] w fun e w' => ∃ g' m', e = .returned (.tuple #[.pointer (some ⟨g', 0, none⟩), .int .i64 0]) ∧ TreeL w' g' (.map (some m')) (remT ts p) ∧ w.heap.size ≤ g' ∧ w.heap.size ≤ m' ∧ m' ≠ g' ∧ Kept (fun _ => False) w w' := by
  have hv := pvalid_any p hsz w
  rw [hp] at hv
  have HV := Lib.hid hv
  have e1b : (p.toList == [47]) = false := beq_eq_false_iff_ne.2 hne
  have HH := Lib.hid (fun W (hk : Kept (fun _ => False) w W) => has_any W g mv ts p (h.stay hk) hsz)
  have hhs : hasS ts p = true := by unfold hasS; rw [hm]; simp
  rw [hhs] at HH
  have HC := Lib.hid (fun W (hk : Kept (fun _ => False) w W) => children_any W g mv ts p (h.stay hk) hts hl)
  have HCO := Lib.hid (fun W (hk : Kept (fun _ => False) w W) => copied_any W g mv _ _ (h.stay hk))
  have HCH := Lib.hid hch
  have hkey := keyOf_string_mk Tryd.underlying9 (s := p) (by unfold maxLen; omega)
  have HKEY := Lib.hid hkey
  have HM := Lib.hid ((memS_iff _ _).1 hm)
  have HND := Lib.hid hnd
  obtain ⟨c, hc⟩ : ∃ c, c = ts.length := ⟨_, rfl⟩
  rw [← hc] at HCO hl
  have HCC := Lib.hid hc
  clear hv hhs h hts hsz hp hm hch hkey hnd hc
  go_enter Tryd.func21, Tryd.ntmps21
  go_wp2_with fail
  refine HV.out.mono ?_
  rintro e w1 ⟨rfl, hk1⟩
  have HH1 := Lib.hid (HH.out w1 hk1)
  have HC1 := Lib.hid (HC.out w1 hk1)
  have HK1 := Lib.hid hk1
  clear hk1
  go_wp2_with fail
  refine HH1.out.mono ?_
  rintro e w2 ⟨rfl, rfl⟩
  go_wp2_with fail
  refine HC1.out.mono ?_
  rintro e w3 ⟨v, r, rfl, hr⟩
  obtain ⟨a, cc, rfl, _⟩ := hr.row.form
  have h0 : r.length = 0 := by
    rcases r with _ | ⟨x, t⟩
    · rfl
    · have := (hr.mem x).1 (by simp)
      rw [HCH.out x this.1] at this
      exact absurd this.2 (by decide)
  have HK3 := Lib.hid (HK1.out.then hr.kept)
  rw [h0]
  clear hr h0
  go_wp2_with fail
  refine (HCO.out w3 HK3.out).mono ?_
  rintro e w4 ⟨m, D, rfl, ho, hmb, hds, hml, hk4⟩
  have HK4 := Lib.hid (HK3.out.then hk4)
  have hmw : w.heap.size ≤ m := by have := HK3.out.size; omega
  have HMB := Lib.hid hmb; have HDS := Lib.hid (hds.trans HCC.out)
  have hkey := HKEY.out
  have HTI := Lib.hid (ho.tidy lawT)
  clear hk4 hmb hml hds
  go_wp2_with (first
    | (at_delete; refine wpList_delete_own _ rfl _ _ 67 9 rfl 4 lawT Tryd.underlying67 _ m _ D rfl ho _ _ rfl hkey ?_; intro w5 hown5 hturn5; go_frame)
    | fail)
  have HK5 : Hid (Kept (fun _ => False) w w5) := HK4.out.trans (Kept.ofGrown (S := fun k => k = m) hturn5.grown (fun k e => (Option.some.inj e).symm)) (fun _ _ h => h) (fun i hi e => by omega)
  have htree : ∀ mvv, mvv = Value.map (some m) → TreeL (w5.alloc (.cells #[mvv] 69)) w5.heap.size (.map (some m)) (remT ts p) := fun mvv hmv => by
    subst hmv
    exact ⟨by go_simp, Or.inr ⟨m, c, _, rfl, ownMB_kept hown5 (Kept.alloc (fun _ => False) _ _) (fun h => h), mapB_rem HMB.out, size_rem HMB.out HTI.out HDS.out HND.out HM.out, by omega⟩⟩
  have HTR := Lib.hid (htree _ rfl)
  have hml5 := hown5.lt
  have hsw := HK5.out.size
  have HKE := Lib.hid (HK5.out.then (Kept.alloc (fun _ => False) w5 (.cells #[.map (some m)] 69)))
  clear htree hown5 hturn5 ho hkey
  go_wp2_with fail
  go_ret2
  exact ⟨_, _, rfl, HTR.out, by omega, hmw, by omega, HKE.out⟩
end Go.Proofs.YtndedphkgkmckaaDoor
