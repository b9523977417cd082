/-
  wire.Reader.Int.
-/
import Derived.Test.YtnmcihfegbdipaaDoorRead2
import Derived.Test.YtnmcihfegbdipaaDoorPutInt
namespace Go.Proofs.YtnmcihfegbdipaaDoor
open Go.RowKit

/-- The number with a sign that a number stands for. -/
def unzz (u : Nat) : Int := if u % 2 = 0 then (u / 2 : Nat) else -((u / 2 : Nat) : Int) - 1

theorem unzz_zz (v : Int) : unzz (zz v) = v := by
  unfold unzz zz
  by_cases h : v < 0
  · rw [if_pos h, if_neg (by omega)]; omega
  · rw [if_neg h, if_pos (by omega)]; omega

/-- What 'Int' gives. -/
def intS (xs : List Nat) (low high err : Int) : Int × List Nat × Int :=
  if err ≠ 0 then (0, xs, err) else if high < low then (0, xs, 1) else if (numberS xs).2 = 0 then (0, xs, 6)
  else if unzz (numberS xs).1 < low ∨ high < unzz (numberS xs).1 then (0, xs, 2) else (unzz (numberS xs).1, xs.drop (numberS xs).2, 0)

set_option maxRecDepth 100000 in
set_option maxHeartbeats 800000 in
theorem rint_any (w : World) (rb : Nat) (v : Value) (xs : List Nat) (err low high : Int) (h : Rd w rb v xs err) (hby : ∀ b ∈ xs, b < 256) :
    Calls Tryd.prog 62 #[.pointer (some ⟨rb, 0, none⟩), .int .i64 low, .int .i64 high] w fun e w' =>
      e = .returned (.int .i64 (intS xs low high err).1) ∧ ∃ v', Rd w' rb v' (intS xs low high err).2.1 (intS xs low high err).2.2 ∧ v'.ownBlock = v.ownBlock ∧ Kept (fun k => k = rb) w w' := by
  have HH := Lib.hid h
  by_cases he : err = 0
  · subst he
    have hcall := number_any v xs w h.reads hby
    have hle := numberS_le xs
    have hlt := numberS_lt xs
    have hI : intS xs low high 0 = if high < low then (0, xs, 1) else if (numberS xs).2 = 0 then (0, xs, 6) else if unzz (numberS xs).1 < low ∨ high < unzz (numberS xs).1 then (0, xs, 2) else (unzz (numberS xs).1, xs.drop (numberS xs).2, 0) := rfl
    generalize numberS xs = q at hcall hle hlt hI
    obtain ⟨x, n⟩ := q
    simp only at hcall hle hlt hI
    have HC := Lib.hid hcall; clear hcall
    have c0 := h.cell0; have c1 := h.cell1; have f1 := h.free1; have hblt := h.lt
    have HY := Lib.hid hby; clear hby h
    obtain ⟨H, hH⟩ : ∃ H : Int, H = (x : Int) / 2 := ⟨_, rfl⟩
    obtain ⟨t, ht⟩ : ∃ t, t = unzz x := ⟨_, rfl⟩
    rw [← ht] at hI
    have hbc : (bits .and .u64 (x : Int) 1 = 0 ∧ wrap64 H = t) ∨ (bits .and .u64 (x : Int) 1 = 1 ∧ wrap64 (wrap64 (-wrap64 H) - 1) = t) := by
      rw [show (1 : Int) = ((1 : Nat) : Int) from rfl, u64_and_nat _ _ hlt (by omega), nat_mask1]
      have hw : wrap64 H = H := IntWalk.wrap64_in _ (by omega)
      rcases Nat.mod_two_eq_zero_or_one x with hb | hb
      · refine Or.inl ⟨by rw [hb]; rfl, ?_⟩
        rw [hw, ht, unzz, if_pos hb]; omega
      · refine Or.inr ⟨by rw [hb], ?_⟩
        rw [hw, IntWalk.wrap64_in (-H) (by omega), IntWalk.wrap64_in _ (by omega), ht, unzz, if_neg (by omega)]; omega
    have hx1 : ((x : Int) / 2) = H := hH.symm
    clear hlt ht hH
    have HI := Lib.hid hI; clear hI
    by_cases hc1 : high < low
    · have hI : intS xs low high 0 = (0, xs, 1) := by rw [HI.out, if_pos hc1]
      rw [hI]
      clear hI HI
      rcases hbc with ⟨hb1, hb2⟩ | ⟨hb1, hb2⟩
      all_goals
        go_enter Tryd.func62, Tryd.ntmps62
        go_wp2_with fail
        refine (ready_yes w rb HH.out.cell1).mono ?_
        rintro e w' ⟨rfl, rfl⟩
        go_wp2_with fail
        refine HC.out.mono ?_
        rintro e w' ⟨rfl, rfl⟩
        go_wp2_with fail
        go_ret
        exact ⟨rfl, v, HH.out.setErr 1, rfl, Kept.setCell _ _ _ _ rfl⟩
    · have hc1' : low ≤ high := by omega
      by_cases hn : n = 0
      · have hI : intS xs low high 0 = (0, xs, 6) := by rw [HI.out, if_neg hc1, if_pos hn]
        rw [hI]
        clear hI HI hc1
        subst hn
        rcases hbc with ⟨hb1, hb2⟩ | ⟨hb1, hb2⟩
        all_goals
          go_enter Tryd.func62, Tryd.ntmps62
          go_wp2_with fail
          refine (ready_yes w rb HH.out.cell1).mono ?_
          rintro e w' ⟨rfl, rfl⟩
          go_wp2_with fail
          refine HC.out.mono ?_
          rintro e w' ⟨rfl, rfl⟩
          go_wp2_with fail
          go_ret
          exact ⟨rfl, v, HH.out.setErr 6, rfl, Kept.setCell _ _ _ _ rfl⟩
      · have hnb : ((n : Int) == 0) = false := by simp; omega
        by_cases hr : t < low ∨ high < t
        · have hI : intS xs low high 0 = (0, xs, 2) := by rw [HI.out, if_neg hc1, if_neg hn, if_pos hr]
          rw [hI]
          clear hI HI hc1 hn
          have hr2 : (t < low) ∨ (low ≤ t ∧ high < t) := by omega
          clear hr
          rcases hr2 with hr | ⟨hr, hr'⟩
          all_goals
            rcases hbc with ⟨hb1, hb2⟩ | ⟨hb1, hb2⟩
          all_goals
            go_enter Tryd.func62, Tryd.ntmps62
            go_wp2_with fail
            refine (ready_yes w rb HH.out.cell1).mono ?_
            rintro e w' ⟨rfl, rfl⟩
            go_wp2_with fail
            refine HC.out.mono ?_
            rintro e w' ⟨rfl, rfl⟩
            go_wp2_with fail
            go_ret
            exact ⟨rfl, v, HH.out.setErr 2, rfl, Kept.setCell _ _ _ _ rfl⟩
        · have hI : intS xs low high 0 = (t, xs.drop n, 0) := by rw [HI.out, if_neg hc1, if_neg hn, if_neg hr]
          rw [hI]
          have hr1 : low ≤ t := by omega
          have hr2 : t ≤ high := by omega
          clear hI HI hc1 hn hr
          rcases hbc with ⟨hb1, hb2⟩ | ⟨hb1, hb2⟩
          all_goals
            go_enter Tryd.func62, Tryd.ntmps62
            go_wp2_with fail
            refine (ready_yes w rb HH.out.cell1).mono ?_
            rintro e w' ⟨rfl, rfl⟩
            go_wp2_with fail
            refine HC.out.mono ?_
            rintro e w' ⟨rfl, rfl⟩
            go_wp2_with fail
            refine (take_any w rb v xs 0 n HH.out hle).mono ?_
            rintro e w1 ⟨p, v', rfl, hr, hp, hv, hpv, hk⟩
            have HV := Lib.hid hv; clear hv
            have HPV := Lib.hid hpv; clear hpv
            go_wp2_with fail
            go_ret
            exact ⟨rfl, v', hr, HV.out, hk⟩
  · rw [show intS xs low high err = (0, xs, err) from if_pos he]
    clear h
    go_enter Tryd.func62, Tryd.ntmps62
    go_wp2_with fail
    refine (ready_no w rb err he HH.out.cell1).mono ?_
    rintro e w' ⟨rfl, rfl⟩
    go_wp2_with fail
    go_ret
    exact ⟨rfl, v, HH.out, rfl, Kept.refl _ _⟩

end Go.Proofs.YtnmcihfegbdipaaDoor
