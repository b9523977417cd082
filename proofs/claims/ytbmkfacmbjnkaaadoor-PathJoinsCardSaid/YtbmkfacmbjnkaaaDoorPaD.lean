/-
  Paths: the reference's Common.
-/
import Derived.Test.YtbmkfacmbjnkaaaDoorPaC
namespace Go.Proofs.YtbmkfacmbjnkaaaDoor
open Go.RowKit
set_option linter.unusedSimpArgs false
set_option linter.unusedVariables false

set_option maxRecDepth 100000 in
set_option maxHeartbeats 3200000 in
theorem qcommonP_any (p q : ByteArray) (hp : p.size ≤ 100000) (hq : q.size ≤ 100000) (w : World) :
    Calls Tryd.prog 31 #[.string p, .string q] w fun e w' => e = .returned (.string ((commonS p q).getD ⟨#[]⟩)) ∧ Kept (fun _ => False) w w' := by
  have HCP := Lib.hid (rsplit_any p hp)
  have HCQ := Lib.hid (rsplit_any q hq)
  cases hP : namesS p with
  | none =>
    rw [show commonS p q = none by unfold commonS; rw [hP]]
    rw [hP] at HCP
    generalize (namesS q).isSome = bq at HCQ
    clear hP
    show Calls _ _ _ _ fun e w' => e = .returned (.string ⟨#[]⟩) ∧ _
    go_enter Tryd.func31, Tryd.ntmps31
    go_wp2_with fail
    refine (HCP.out _).mono ?_
    rintro e w1 ⟨v1, rfl, hr1⟩
    have HK1 := Lib.hid hr1.kept
    clear hr1
    go_wp2_with fail
    refine (HCQ.out _).mono ?_
    rintro e w2 ⟨v2, rfl, hr2⟩
    have HK2 := Lib.hid hr2.kept
    clear hr2
    go_wp2_with fail
    go_ret
    exact ⟨rfl, HK1.out.then HK2.out⟩
  | some xs =>
    cases hQ : namesS q with
    | none =>
      rw [show commonS p q = none by unfold commonS; rw [hP, hQ]]
      rw [hP] at HCP
      rw [hQ] at HCQ
      clear hP hQ
      show Calls _ _ _ _ fun e w' => e = .returned (.string ⟨#[]⟩) ∧ _
      go_enter Tryd.func31, Tryd.ntmps31
      go_wp2_with fail
      refine (HCP.out _).mono ?_
      rintro e w1 ⟨v1, rfl, hr1⟩
      have HK1 := Lib.hid hr1.kept
      clear hr1
      go_wp2_with fail
      refine (HCQ.out _).mono ?_
      rintro e w2 ⟨v2, rfl, hr2⟩
      have HK2 := Lib.hid hr2.kept
      clear hr2
      go_wp2_with fail
      go_ret
      exact ⟨rfl, HK1.out.then HK2.out⟩
    | some ys =>
      rw [show commonS p q = some (pathS (xs.take (comS xs ys))) by unfold commonS; rw [hP, hQ]]
      rw [hP] at HCP
      rw [hQ] at HCQ
      obtain ⟨c, hc⟩ : ∃ c, c = comS xs ys := ⟨_, rfl⟩
      have hcl : c ≤ xs.length := by rw [hc]; exact (comS_le xs ys).1
      have hCM := fun (v u : Value) (W : World) (h1 : Strs W v xs) (h2 : Strs W u ys) => qcommon_any v u xs ys W h1 h2
      rw [← hc] at hCM ⊢
      have HCM := Lib.hid hCM
      obtain ⟨-, hal, hl8⟩ := pathS_names hP
      have hOF : ∀ (v : Value) (W : World), Strs W v (xs.take c) → Calls Tryd.prog 17 #[v] W fun e w' => e = .returned (.string (pathS (xs.take c))) ∧ W = w' := fun v W hv =>
        qof_any v (xs.take c) W hv (by rw [List.length_take]; omega) (fun x hx => by
          have := nameL_len (List.all_eq_true.1 hal x (List.mem_of_mem_take hx))
          have e : x.size = x.data.toList.length := rfl
          omega)
      have HP := Lib.hid hP; have HQ := Lib.hid hQ
      rw [show (some (pathS (xs.take c))).getD ⟨#[]⟩ = pathS (xs.take c) from rfl]
      obtain ⟨R, hR⟩ : ∃ R, R = pathS (xs.take c) := ⟨_, rfl⟩
      rw [← hR] at hOF ⊢
      have HOF := Lib.hid hOF
      clear hR
      have HCL := Lib.hid hcl
      clear hCM hOF hP hQ hc hal hl8 hcl
      go_enter Tryd.func31, Tryd.ntmps31
      go_wp2_with fail
      refine (HCP.out _).mono ?_
      rintro e w1 ⟨v1, rfl, hr1⟩
      have hrow1 : Strs w1 v1 xs := by
        obtain ⟨zs, h1, _, h2⟩ := hr1.row
        obtain rfl := h2 xs HP.out
        exact h1
      have HK1 := Lib.hid hr1.kept
      have HR1 := Lib.hid hrow1
      clear hr1 hrow1
      go_wp2_with fail
      refine (HCQ.out _).mono ?_
      rintro e w2 ⟨v2, rfl, hr2⟩
      have hrow2 : Strs w2 v2 ys := by
        obtain ⟨zs, h1, _, h2⟩ := hr2.row
        obtain rfl := h2 ys HQ.out
        exact h1
      have HK2 := Lib.hid hr2.kept
      have hrow1 : Strs w2 v1 xs := HR1.out.kept HK2.out (fun _ _ h => h)
      have HR2 := Lib.hid hrow2
      have HR1' := Lib.hid hrow1
      have hpar := hrow1.parts
      clear hr2 hrow1 hrow2
      go_wp2_with fail
      refine (HCM.out _ _ _ HR1'.out HR2.out).mono ?_
      rintro e w3 ⟨rfl, hk3⟩
      have HK3 := Lib.hid hk3
      have HR3 := Lib.hid (HR1'.out.kept hk3 (fun _ _ h => h))
      clear hk3
      have hcl := HCL.out
      rcases hpar with ⟨rfl, hx0⟩ | ⟨g, off, c1, rfl, hc1, hcm1⟩
      · have hc0 : c = 0 := by rw [hx0] at hcl; simpa using hcl
        have hO := HOF.out (.slice none 0 0) w3 (Or.inl ⟨rfl, by rw [hx0]; simp⟩)
        have HO := Lib.hid hO
        subst hc0
        clear hO hx0 hcl
        go_wp2_with fail
        refine HO.out.mono ?_
        rintro e w4 ⟨rfl, rfl⟩
        go_wp2_with fail
        go_ret
        exact ⟨rfl, (HK1.out.then HK2.out).then HK3.out⟩
      · have hO := HOF.out (.slice (some ⟨g, off, none⟩) c c1) w3 (Strs.take (n := xs.length) HR3.out c hcl)
        have HO := Lib.hid hO
        have l0 : (0 : Int) ≤ (c : Int) := by omega
        have l2 : (c : Int) ≤ (c1 : Int) := by omega
        have l3 : c ≤ c1 := by omega
        unfold maxLen at hcm1
        clear hO hc1 hcl
        go_wp2_with fail
        refine HO.out.mono ?_
        rintro e w4 ⟨rfl, rfl⟩
        go_wp2_with fail
        go_ret
        exact ⟨rfl, (HK1.out.then HK2.out).then HK3.out⟩
end Go.Proofs.YtbmkfacmbjnkaaaDoor
