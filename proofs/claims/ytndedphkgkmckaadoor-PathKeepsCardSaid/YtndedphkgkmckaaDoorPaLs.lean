/-
  The reference's order: Less.
-/
import Derived.Test.YtndedphkgkmckaaDoorPaLe
import Derived.Test.YtndedphkgkmckaaDoorPaC
namespace Go.Proofs.YtndedphkgkmckaaDoor
open Go.RowKit
set_option linter.unusedSimpArgs false
set_option linter.unusedVariables false

theorem cmpN_end {a b : List ByteArray} (he : comS a b = a.length ∨ comS a b = b.length) : decide (cmpN a b = -1) = decide (a.length < b.length) := by
  have hg := comS_get a b
  have hle := comS_le a b
  rcases Nat.lt_trichotomy a.length b.length with h | h | h
  · have hk : comS a b = a.length := by omega
    rw [cmpN_right (fun i hi => hg i (by omega)) h]; simp [h]
  · have hk : comS a b = a.length := by omega
    rw [cmpN_same (fun i hi => hg i (by omega)) h]; simp [h]
  · have hk : comS a b = b.length := by omega
    rw [cmpN_left (fun i hi => hg i (by omega)) h]; simp; omega

theorem cmpN_mid {a b : List ByteArray} (h1 : comS a b < a.length) (h2 : comS a b < b.length) : decide (cmpN a b = -1) = lessB (a.getD (comS a b) ⟨#[]⟩) (b.getD (comS a b) ⟨#[]⟩) := by
  rw [cmpN_stop (comS_get a b) h1 h2 fun e => comS_stop a b h1 h2 (cmpB_zero.1 e)]
  rfl

theorem names_size {s : ByteArray} {l : List ByteArray} (h : namesS s = some l) {x : ByteArray} (hx : x ∈ l) : x.size ≤ 12 := by
  obtain ⟨_, h2, _⟩ := pathS_names h
  have := nameL_len (List.all_eq_true.1 h2 x hx)
  have e : x.size = x.data.toList.length := rfl
  omega

set_option maxRecDepth 100000 in
set_option maxHeartbeats 3200000 in
theorem less_any (p q : ByteArray) (hp : p.size ≤ 100000) (hq : q.size ≤ 100000) (w : World) :
    Calls Tryd.prog 74 #[.string p, .string q] w fun e w' => e = .returned (.bool (decide (compareS p q = -1))) ∧ Kept (fun _ => False) w w' := by
  have HCP := Lib.hid (rsplit_any p hp)
  have HCQ := Lib.hid (rsplit_any q hq)
  have hbl := bless_any p q hp hq
  obtain ⟨V, hV⟩ : ∃ V, V = decide (compareS p q = -1) := ⟨_, rfl⟩
  rw [← hV]
  unfold compareS at hV
  cases hP : namesS p with
  | none =>
    cases hQ : namesS q with
    | none =>
      rw [hP] at HCP
      rw [hQ] at HCQ
      rw [hP, hQ] at hV
      simp only at hV
      have hV2 : V = lessB p q := hV
      rw [← hV2] at hbl
      have HBL := Lib.hid hbl
      clear hP hQ hV hV2 hbl
      go_enter Tryd.func74, Tryd.ntmps74
      go_wp2_with fail
      refine (HCP.out _).mono ?_
      rintro e w1 ⟨v1, rfl, hr1⟩
      have HK1 := Lib.hid hr1.kept
      clear hr1
      go_wp2_with fail
      refine (HCQ.out _).mono ?_
      rintro e w2 ⟨v2, rfl, hr2⟩
      have HK2 := Lib.hid hr2.kept
      clear hr2
      go_wp2_with fail
      refine (HBL.out _).mono ?_
      rintro e w3 ⟨rfl, m, rfl⟩
      go_wp2_with fail
      go_ret
      exact ⟨rfl, (HK1.out.then HK2.out).drewN m⟩
    | some ys =>
      rw [hP] at HCP
      rw [hQ] at HCQ
      rw [hP, hQ] at hV
      simp at hV
      subst hV
      clear hP hQ hbl
      go_enter Tryd.func74, Tryd.ntmps74
      go_wp2_with fail
      refine (HCP.out _).mono ?_
      rintro e w1 ⟨v1, rfl, hr1⟩
      have HK1 := Lib.hid hr1.kept
      clear hr1
      go_wp2_with fail
      refine (HCQ.out _).mono ?_
      rintro e w2 ⟨v2, rfl, hr2⟩
      have HK2 := Lib.hid hr2.kept
      clear hr2
      go_wp2_with fail
      go_ret
      exact ⟨rfl, HK1.out.then HK2.out⟩
  | some xs =>
    cases hQ : namesS q with
    | none =>
      rw [hP, hQ] at hV
      rw [hP] at HCP
      rw [hQ] at HCQ
      simp at hV
      subst hV
      clear hP hQ hbl
      go_enter Tryd.func74, Tryd.ntmps74
      go_wp2_with fail
      refine (HCP.out _).mono ?_
      rintro e w1 ⟨v1, rfl, hr1⟩
      have HK1 := Lib.hid hr1.kept
      clear hr1
      go_wp2_with fail
      refine (HCQ.out _).mono ?_
      rintro e w2 ⟨v2, rfl, hr2⟩
      have HK2 := Lib.hid hr2.kept
      clear hr2
      go_wp2_with fail
      go_ret
      exact ⟨rfl, HK1.out.then HK2.out⟩
    | some ys =>
      rw [hP, hQ] at hV
      simp only at hV
      rw [hP] at HCP
      rw [hQ] at HCQ
      have hzx : xs.length ≤ 8 ∧ ∀ x ∈ xs, x.size ≤ 12 := ⟨(pathS_names hP).2.2, fun x hx => names_size hP hx⟩
      have hzy : ys.length ≤ 8 ∧ ∀ x ∈ ys, x.size ≤ 12 := ⟨(pathS_names hQ).2.2, fun x hx => names_size hQ hx⟩
      have HP := Lib.hid hP; have HQ := Lib.hid hQ
      clear hP hQ hbl
      have HV := Lib.hid hV
      clear hV
      obtain ⟨n, hn⟩ : ∃ n, n = xs.length := ⟨_, rfl⟩
      obtain ⟨m, hm⟩ : ∃ m, m = ys.length := ⟨_, rfl⟩
      obtain ⟨cc, hcc⟩ : ∃ cc, cc = comS xs ys := ⟨_, rfl⟩
      have hle := comS_le xs ys
      rw [← hcc, ← hn, ← hm] at hle
      have hnb : n ≤ 8 := by omega
      have hmb : m ≤ 8 := by omega
      have hCM := fun (v u : Value) (W : World) (h1 : Strs W v xs) (h2 : Strs W u ys) => qcommon_any v u xs ys W h1 h2
      rw [← hcc] at hCM
      have HCM := Lib.hid hCM
      have HN := Lib.hid hn; have HM := Lib.hid hm; have HC := Lib.hid hcc
      have HZX := Lib.hid hzx; have HZY := Lib.hid hzy
      clear hCM hn hm hcc hzx hzy
      go_enter Tryd.func74, Tryd.ntmps74
      go_wp2_with fail
      refine (HCP.out _).mono ?_
      rintro e w1 ⟨v1, rfl, hr1⟩
      have hrow1 : Strs w1 v1 xs := by
        obtain ⟨zs, h1, _, h2⟩ := hr1.row
        obtain rfl := h2 xs HP.out
        exact h1
      obtain ⟨a1, c1, rfl, _, _⟩ := hrow1.form
      have hrw1 := hrow1
      have HK1 := Lib.hid hr1.kept
      have HR1 := Lib.hid hrow1
      rw [← HN.out] at HR1 ⊢
      clear hr1 hrow1 hrw1
      go_wp2_with fail
      refine (HCQ.out _).mono ?_
      rintro e w2 ⟨v2, rfl, hr2⟩
      have hrow2 : Strs w2 v2 ys := by
        obtain ⟨zs, h1, _, h2⟩ := hr2.row
        obtain rfl := h2 ys HQ.out
        exact h1
      obtain ⟨a2, c2, rfl, _, _⟩ := hrow2.form
      have HK2 := Lib.hid hr2.kept
      have HR2 := Lib.hid hrow2
      rw [← HM.out] at HR2 ⊢
      have HR1b := Lib.hid (HR1.out.kept HK2.out (fun _ _ h => h))
      have HK12 := Lib.hid (HK1.out.then HK2.out)
      clear hr2 hrow2
      go_wp2_with fail
      refine (HCM.out _ _ _ HR1b.out HR2.out).mono ?_
      rintro e w3 ⟨rfl, hk3⟩
      have HR1c := Lib.hid (HR1b.out.kept hk3 (fun _ _ h => h))
      have HR2c := Lib.hid (HR2.out.kept hk3 (fun _ _ h => h))
      have HK3 := Lib.hid (HK12.out.then hk3)
      clear hk3
      by_cases he : cc = n ∨ cc = m
      · have hend : V = decide (n < m) := by
          rw [HV.out, HN.out, HM.out]
          exact cmpN_end (by rw [← HC.out, ← HN.out, ← HM.out]; exact he)
        have HE := Lib.hid hend
        clear hend
        rcases Nat.lt_or_ge cc n with hlt | hge
        · have e1 : ((cc : Int) == (n : Int)) = false := beq_eq_false_iff_ne.2 (by omega)
          have e2 : ((cc : Int) == (m : Int)) = true := by simp; omega
          clear he hlt hle
          go_wp2_with fail
          go_ret
          obtain rfl := HE.out
          exact ⟨by simp, HK3.out⟩
        · have e1 : ((cc : Int) == (n : Int)) = true := by simp; omega
          clear he hge hle
          go_wp2_with fail
          go_ret
          obtain rfl := HE.out
          exact ⟨by simp, HK3.out⟩
      · have e1 : ((cc : Int) == (n : Int)) = false := beq_eq_false_iff_ne.2 (by omega)
        have e2 : ((cc : Int) == (m : Int)) = false := beq_eq_false_iff_ne.2 (by omega)
        have hcn : cc < n := by omega
        have hcm : cc < m := by omega
        have l0 : (0 : Int) ≤ (cc : Int) := by omega
        have l1 : (cc : Int) < (n : Int) := by omega
        have l2 : (cc : Int) < (m : Int) := by omega
        have hmid : V = lessB (xs.getD cc ⟨#[]⟩) (ys.getD cc ⟨#[]⟩) := by
          rw [HV.out, HC.out]
          exact cmpN_mid (by rw [← HC.out, ← HN.out]; exact hcn) (by rw [← HC.out, ← HM.out]; exact hcm)
        obtain ⟨g, off, rfl, _, hcell⟩ := HR1c.out.at (k := cc) (by have := HN.out; omega)
        obtain ⟨g', off', rfl, _, hcell'⟩ := HR2c.out.at (k := cc) (by have := HM.out; omega)
        have hsx : (xs.getD cc ⟨#[]⟩).size ≤ 12 := HZX.out.2 _ (by rw [List.getD_eq_getElem?_getD, List.getElem?_eq_getElem (by have := HN.out; omega)]; exact List.getElem_mem _)
        have hsy : (ys.getD cc ⟨#[]⟩).size ≤ 12 := HZY.out.2 _ (by rw [List.getD_eq_getElem?_getD, List.getElem?_eq_getElem (by have := HM.out; omega)]; exact List.getElem_mem _)
        generalize xs.getD cc ⟨#[]⟩ = x at hmid hcell hsx
        generalize ys.getD cc ⟨#[]⟩ = y at hmid hcell' hsy
        have hbl := bless_any x y (by omega) (by omega)
        rw [← hmid] at hbl
        have HBL : Hid (∀ W, Calls Tryd.prog 84 #[.string x, .string y] W fun e w' => e = .returned (.bool V) ∧ ∃ m, w' = W.drewN m) := hbl
        clear hbl hmid he hcn hcm hle hsx hsy
        go_wp2_with fail
        go_quiet ((go_at_call 84; exact quiet_left8 (HBL.out _)))
        have HD2 := Lib.hid (HK3.out.drewN nq)
        generalize w3.drewN nq = wd at *
        go_wp2_with fail
        go_ret
        exact ⟨rfl, HD2.out⟩
end Go.Proofs.YtndedphkgkmckaaDoor
