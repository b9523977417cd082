/-
  membership's place: where a role stands in a list that ascends by role.
-/
import Derived.Test.YtccanbjnbmihgaaDoorMbE
import Derived.RowKit
import Derived.Lib.Hide
namespace Go.Proofs.YtccanbjnbmihgaaDoor
open Go.RowKit

def cmpI (a b : Int) : Int := if a < b then -1 else if b < a then 1 else 0

set_option maxRecDepth 100000 in
set_option maxHeartbeats 3200000 in
theorem isNaN_any (a : Int) (w : World) : Calls Tryd.prog 97 #[.int .i64 a] w fun e w' => e = .returned (.bool false) ∧ w = w' := by
  go_enter Tryd.func97, Tryd.ntmps97
  go_wp2
  all_goals go_ret
  all_goals (try simp)

set_option maxRecDepth 100000 in
set_option maxHeartbeats 3200000 in
theorem compare_any (a b : Int) (w : World) : Calls Tryd.prog 82 #[.int .i64 a, .int .i64 b] w fun e w' => e = .returned (.int .i64 (cmpI a b)) ∧ w = w' := by
  unfold cmpI
  go_enter Tryd.func82, Tryd.ntmps82
  go_wp2_with (first
    | (go_at_call 97; refine (isNaN_any _ _).mono ?_; rintro e W1 ⟨rfl, rfl⟩))
  all_goals go_ret
  all_goals (simp_all <;> (try omega))

set_option maxRecDepth 100000 in
set_option maxHeartbeats 3200000 in
theorem placeF_any (x : Ent) (role : Int) (w : World) : Calls Tryd.prog 81 #[entV x, .int .i64 role] w fun e w' => e = .returned (.int .i64 (cmpI x.r role)) ∧ Kept (fun _ => False) w w' := by
  unfold entV
  go_enter Tryd.func81, Tryd.ntmps81
  go_wp2_with (first
    | (go_at_call 82; refine (compare_any _ _ _).mono ?_; rintro e W1 ⟨rfl, rfl⟩))
  go_ret
  exact ⟨rfl, Kept.alloc _ _ _⟩

/-- A list that ascends by role. -/
def Asc (l : List Ent) : Prop := ∀ i j, i < j → j < l.length → (l.getD i ent0).r < (l.getD j ent0).r
/-- Where a role stands, or would stand. -/
def PlaceAt (l : List Ent) (role : Int) (i : Nat) : Prop := i ≤ l.length ∧ (∀ k, k < i → (l.getD k ent0).r < role) ∧ ∀ k, i ≤ k → k < l.length → role ≤ (l.getD k ent0).r
def foundAt (l : List Ent) (role : Int) (i : Nat) : Bool := decide (i < l.length ∧ (l.getD i ent0).r = role)

set_option maxRecDepth 100000 in
set_option maxHeartbeats 6400000 in
theorem bsf_any (w : World) (v : Value) (l : List Ent) (role : Int) (hv : Ents w v l) (ha : Asc l) (hl : l.length ≤ 1000000) :
    Calls Tryd.prog 80 #[v, .int .i64 role, .func (.func 81) #[] #[]] w fun e w' =>
      ∃ i : Nat, e = .returned (.tuple #[.int .i64 (i : Int), .bool (foundAt l role i)]) ∧ PlaceAt l role i ∧ Kept (fun _ => False) w w' := by
  obtain ⟨a, c, rfl, h1, h2⟩ := hv.form
  go_enter Tryd.func80, Tryd.ntmps80
  go_wp2
  go_loopw [9, 10] (fun u9 u10 wr => ∃ i j : Nat, u9 = .int .i64 (i : Int) ∧ u10 = .int .i64 (j : Int) ∧ i ≤ j ∧ j ≤ l.length ∧ (∀ k, k < i → (l.getD k ent0).r < role) ∧ (∀ k, j ≤ k → k < l.length → role ≤ (l.getD k ent0).r) ∧ Kept (fun _ => False) w wr)
    (fun u9 u10 _ => (intOf u10).toNat - (intOf u9).toNat)
  case atStart => exact ⟨0, l.length, rfl, rfl, Nat.zero_le _, Nat.le_refl _, fun k hk => absurd hk (by omega), fun k h1 h2 => absurd h1 (by omega), Kept.refl _ _⟩
  case round =>
    obtain ⟨i, j, rfl, rfl, hij, hjl, hlo, hhi, hk⟩ := hrel
    have H2 := Lib.hid hlo; have H3 := Lib.hid hhi; have HK := Lib.hid hk
    clear hlo hhi hk
    by_cases hlt : i < j
    · obtain ⟨h, hh⟩ : ∃ h : Nat, h = (i + j) / 2 := ⟨_, rfl⟩
      have hq : ((i : Int) + (j : Int)) / 2 = (h : Int) := by omega
      have hih : i ≤ h := by omega
      have hhj : h < j := by omega
      obtain ⟨g, off, rfl, hg, hc⟩ := (hv.kept HK.out (fun _ _ h => h)).at (k := h) (by omega)
      generalize hx : l.getD h ent0 = x at hc
      obtain ⟨xu, xr, xt⟩ := x
      obtain ⟨c0, c1, c2⟩ := hc
      simp only at c0 c1 c2
      have HX := Lib.hid hx; have HH := Lib.hid hh
      clear hx hh
      have HA := Lib.hid ha; have HV := Lib.hid hv
      clear ha hv
      by_cases hr : xr < role
      · have HC : Hid (∀ W, Calls Tryd.prog 81 #[.agg #[.int .i64 xu, .int .i64 xr, .int .i64 xt], .int .i64 role] W fun e w' => e = .returned (.int .i64 (-1)) ∧ Kept (fun _ => False) W w') :=
          Lib.hid fun W => (placeF_any ⟨xu, xr, xt⟩ role W).mono fun e w' ⟨h1, h2⟩ => ⟨h1.trans (by show _ = _; unfold cmpI; rw [if_pos hr]), h2⟩
        have HR := Lib.hid hr
        clear hr
        go_wp2_with (first
          | (go_at_call 81; refine (HC.out _).mono ?_; rintro e W1 ⟨rfl, k1⟩; have K1 := Lib.hid k1; clear k1))
        go_roundw
        case rel =>
          refine ⟨h + 1, j, by simp, rfl, by omega, by omega, fun k hk => ?_, H3.out, HK.out.trans K1.out (fun _ _ h => h) (fun _ _ h => h)⟩
          rcases Nat.lt_or_ge k h with h5 | h5
          · have := HA.out k h h5 (by omega)
            rw [HX.out] at this
            exact Int.lt_trans this HR.out
          · obtain rfl : k = h := by omega
            rw [HX.out]; exact HR.out
        case measure => simp [intOf]; omega
      · obtain ⟨q, hq2, hq3⟩ : ∃ q : Int, q = cmpI xr role ∧ 0 ≤ q := ⟨_, rfl, by unfold cmpI; rw [if_neg hr]; split <;> omega⟩
        have HC : Hid (∀ W, Calls Tryd.prog 81 #[.agg #[.int .i64 xu, .int .i64 xr, .int .i64 xt], .int .i64 role] W fun e w' => e = .returned (.int .i64 q) ∧ Kept (fun _ => False) W w') :=
          Lib.hid fun W => (placeF_any ⟨xu, xr, xt⟩ role W).mono fun e w' ⟨h1, h2⟩ => ⟨h1.trans (by rw [hq2]), h2⟩
        have HR := Lib.hid hr
        clear hr hq2
        go_wp2_with (first
          | (go_at_call 81; refine (HC.out _).mono ?_; rintro e W1 ⟨rfl, k1⟩; have K1 := Lib.hid k1; clear k1))
        go_roundw
        case rel =>
          refine ⟨i, h, rfl, by simp, by omega, by omega, H2.out, fun k hk1 hk2 => ?_, HK.out.trans K1.out (fun _ _ h => h) (fun _ _ h => h)⟩
          rcases Nat.lt_or_ge h k with h5 | h5
          · have := HA.out h k h5 hk2
            rw [HX.out] at this
            have h6 : role ≤ xr := HR.out
            simp only at this
            omega
          · obtain rfl : k = h := by omega
            rw [HX.out]; exact HR.out
        case measure => simp [intOf]; omega
    · obtain rfl : i = j := by omega
      by_cases hin : i < l.length
      · obtain ⟨g, off, rfl, hg, hc⟩ := (hv.kept HK.out (fun _ _ h => h)).at (k := i) hin
        generalize hx : l.getD i ent0 = x at hc
        obtain ⟨xu, xr, xt⟩ := x
        obtain ⟨c0, c1, c2⟩ := hc
        simp only at c0 c1 c2
        have HX := Lib.hid hx
        clear hx
        have HA := Lib.hid ha; have HV := Lib.hid hv
        clear ha hv
        by_cases hr : xr = role
        · have HC : Hid (∀ W, Calls Tryd.prog 81 #[.agg #[.int .i64 xu, .int .i64 xr, .int .i64 xt], .int .i64 role] W fun e w' => e = .returned (.int .i64 0) ∧ Kept (fun _ => False) W w') :=
            Lib.hid fun W => (placeF_any ⟨xu, xr, xt⟩ role W).mono fun e w' ⟨h1, h2⟩ => ⟨h1.trans (by show _ = _; unfold cmpI; rw [if_neg (by show ¬ xr < role; omega), if_neg (by show ¬ role < xr; omega)]), h2⟩
          have HR := Lib.hid hr
          clear hr
          go_wp2_with (first
            | (go_at_call 81; refine (HC.out _).mono ?_; rintro e W1 ⟨rfl, k1⟩; have K1 := Lib.hid k1; clear k1))
          go_ret2
          refine ⟨i, ?_, ⟨hjl, H2.out, H3.out⟩, HK.out.trans K1.out (fun _ _ h => h) (fun _ _ h => h)⟩
          have : foundAt l role i = true := by unfold foundAt; rw [HX.out]; simp [hin, HR.out]
          rw [this]
          rfl
        · obtain ⟨q, hq2, hq3⟩ : ∃ q : Int, q = cmpI xr role ∧ q ≠ 0 := ⟨_, rfl, by
            unfold cmpI
            by_cases h5 : xr < role
            · rw [if_pos h5]; decide
            · rw [if_neg h5, if_pos (by omega)]; decide⟩
          have HC : Hid (∀ W, Calls Tryd.prog 81 #[.agg #[.int .i64 xu, .int .i64 xr, .int .i64 xt], .int .i64 role] W fun e w' => e = .returned (.int .i64 q) ∧ Kept (fun _ => False) W w') :=
            Lib.hid fun W => (placeF_any ⟨xu, xr, xt⟩ role W).mono fun e w' ⟨h1, h2⟩ => ⟨h1.trans (by rw [hq2]), h2⟩
          have HR := Lib.hid hr
          clear hr hq2
          go_wp2_with (first
            | (go_at_call 81; refine (HC.out _).mono ?_; rintro e W1 ⟨rfl, k1⟩; have K1 := Lib.hid k1; clear k1))
          go_ret2
          refine ⟨i, ?_, ⟨hjl, H2.out, H3.out⟩, HK.out.trans K1.out (fun _ _ h => h) (fun _ _ h => h)⟩
          have : foundAt l role i = (q == 0) := by
            have h8 : (q == 0) = false := by simpa using hq3
            rw [h8]; unfold foundAt; rw [HX.out]; simp [HR.out]
          rw [this]
          rfl
      · go_wp2_with fail
        go_ret2
        refine ⟨i, ?_, ⟨hjl, H2.out, H3.out⟩, HK.out⟩
        have : foundAt l role i = false := by unfold foundAt; simp [hin]
        rw [this]
        rfl

set_option maxRecDepth 100000 in
set_option maxHeartbeats 3200000 in
theorem place_any (w : World) (v : Value) (l : List Ent) (role : Int) (hv : Ents w v l) (ha : Asc l) (hl : l.length ≤ 1000000) :
    Calls Tryd.prog 47 #[v, .int .i64 role] w fun e w' =>
      ∃ i : Nat, e = .returned (.tuple #[.int .i64 (i : Int), .bool (foundAt l role i)]) ∧ PlaceAt l role i ∧ Kept (fun _ => False) w w' := by
  obtain ⟨a, c, rfl, h1, h2⟩ := hv.form
  have HV := Lib.hid hv; have HA := Lib.hid ha
  clear hv ha
  go_enter Tryd.func47, Tryd.ntmps47
  go_wp2_with (first
    | (go_at_call 80; refine (bsf_any _ _ l role HV.out HA.out hl).mono ?_; rintro e W1 ⟨i, rfl, hp, k1⟩))
  all_goals go_ret2
  all_goals exact ⟨i, rfl, hp, k1⟩
end Go.Proofs.YtccanbjnbmihgaaDoor
