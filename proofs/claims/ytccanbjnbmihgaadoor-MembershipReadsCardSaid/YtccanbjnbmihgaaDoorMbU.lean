/-
  membership: of, Until, active, Len.
-/
import Derived.Test.YtccanbjnbmihgaaDoorMbT
namespace Go.Proofs.YtccanbjnbmihgaaDoor
open Go.RowKit Go.Shelf
set_option linter.unusedVariables false
set_option linter.unusedSimpArgs false

/-- The row of any number: none for what is no user. -/
def rowOf (H : Nat → List Ent) (u : Int) : List Ent := if 1 ≤ u ∧ u ≤ 256 then H u.toNat else []
def actE (t d : Int) : Bool := decide (0 ≤ d ∧ d ≤ t)
/-- The entry of a role. -/
def lookE (l : List Ent) (r : Int) : Option Ent := l.find? (fun y => decide (y.r = r))

theorem look_found {l : List Ent} {r : Int} {i : Nat} (ha : Asc l) (hp : PlaceAt l r i) (hf : foundAt l r i = true) : lookE l r = some (l.getD i ent0) := by
  unfold foundAt at hf
  have ⟨h1, h2⟩ := of_decide_eq_true hf
  unfold lookE
  rw [List.find?_eq_some_iff_getElem]
  refine ⟨by simpa using h2, i, h1, by simp [List.getD, h1], fun j hj => ?_⟩
  have := hp.2.1 j hj
  have e : l.getD j ent0 = l[j] := by simp [List.getD, show j < l.length by omega]
  rw [e] at this
  simp; omega
theorem look_none {l : List Ent} {r : Int} {i : Nat} (ha : Asc l) (hp : PlaceAt l r i) (hf : foundAt l r i = false) : lookE l r = none := by
  unfold lookE
  rw [List.find?_eq_none]
  intro y hy
  obtain ⟨j, hj, rfl⟩ := List.getElem_of_mem hy
  have e : l.getD j ent0 = l[j] := by simp [List.getD, hj]
  unfold foundAt at hf
  have hf := of_decide_eq_false hf
  rcases Nat.lt_or_ge j i with h | h
  · have := hp.2.1 j h; rw [e] at this; simp; omega
  · rcases Nat.lt_or_ge i j with h5 | h5
    · have h6 := ha i j h5 hj
      have h7 := hp.2.2 i (Nat.le_refl _) (by omega)
      rw [e] at h6
      simp; omega
    · obtain rfl : i = j := by omega
      intro h8
      exact hf ⟨hj, by rw [e]; simpa using h8⟩

set_option maxRecDepth 100000 in
set_option maxHeartbeats 3200000 in
theorem mof_none (w : World) (u : Int) : Calls Tryd.prog 48 #[.pointer none, .int .i64 u] w fun e w' => e = .returned (.slice none 0 0) ∧ w = w' := by
  go_enter Tryd.func48, Tryd.ntmps48
  go_wp2_with fail
  go_ret
  exact ⟨rfl, rfl⟩
/-- The row's value of any number. -/
def rowV (hv : Nat → Value) (u : Int) : Value := if 1 ≤ u ∧ u ≤ 256 then hv u.toNat else .slice none 0 0
theorem row_ents {w : World} {bb M : Nat} {hv : Nat → Value} {H : Nat → List Ent} (h : BookAt w bb M hv H) (u : Int) : Ents w (rowV hv u) (rowOf H u) := by
  unfold rowV rowOf
  split
  · exact h.row _ (by omega)
  · exact Or.inl ⟨rfl, rfl⟩
set_option maxRecDepth 100000 in
set_option maxHeartbeats 3200000 in
theorem mof_at (w : World) (bb M : Nat) (hv : Nat → Value) (H : Nat → List Ent) (u : Int) (hb : BookAt w bb M hv H) :
    Calls Tryd.prog 48 #[.pointer (some ⟨bb, 0, none⟩), .int .i64 u] w fun e w' => e = .returned (rowV hv u) ∧ w = w' := by
  by_cases h1 : u < 1
  · have hrow : rowV hv u = .slice none 0 0 := by unfold rowV; rw [if_neg (by omega)]
    rw [hrow]
    clear hb hrow
    go_enter Tryd.func48, Tryd.ntmps48
    go_wp2_with fail
    go_ret
    exact ⟨rfl, rfl⟩
  · by_cases h2 : 256 < u
    · have hrow : rowV hv u = .slice none 0 0 := by unfold rowV; rw [if_neg (by omega)]
      rw [hrow]
      clear hb hrow
      go_enter Tryd.func48, Tryd.ntmps48
      go_wp2_with fail
      go_ret
      exact ⟨rfl, rfl⟩
    · obtain ⟨k, rfl⟩ : ∃ k : Nat, u = (k : Int) := ⟨u.toNat, by omega⟩
      have hrow : rowV hv (k : Int) = hv k := by unfold rowV; rw [if_pos (by omega)]; simp
      rw [hrow]
      have hk : k < 257 := by omega
      have hc := hb.cell k hk
      obtain ⟨a, c, hf, _, _⟩ := (hb.row k hk).form
      have l1 : (k : Int) < 257 := by omega
      have l0 : (0 : Int) ≤ (k : Int) := by omega
      rw [hf] at hc ⊢
      clear hb hrow hf
      go_enter Tryd.func48, Tryd.ntmps48
      go_wp2_with fail
      go_ret
      exact ⟨rfl, rfl⟩
theorem mof_any (w : World) (v : Value) (M : Nat) (H : Nat → List Ent) (u : Int) (h : BookV w v M H) :
    Calls Tryd.prog 48 #[v, .int .i64 u] w fun e w' => ∃ rv, e = .returned rv ∧ Ents w rv (rowOf H u) ∧ w = w' := by
  obtain ⟨bb, hv, rfl, hb, hr⟩ := h
  refine (mof_at w bb M hv H u hb).mono ?_
  rintro e w' ⟨rfl, rfl⟩
  exact ⟨_, rfl, row_ents hb u, rfl⟩

theorem rowOf_asc {H : Nat → List Ent} (h : Rows2 H) (u : Int) : Asc (rowOf H u) := by
  unfold rowOf
  split
  · exact h.asc _ (by omega)
  · intro i j _ hj; simp at hj
theorem rowOf_len {w : World} {bb M : Nat} {hv : Nat → Value} {H : Nat → List Ent} (h : BookAt w bb M hv H) (u : Int) : (rowOf H u).length ≤ M := by
  unfold rowOf
  split
  · exact h.len _ (by omega)
  · simp
theorem rowOf_fit {H : Nat → List Ent} (h : Rows2 H) (u : Int) : ∀ x ∈ rowOf H u, 1 ≤ x.r ∧ x.r ≤ 63 ∧ 0 ≤ x.t ∧ x.t ≤ 30000 := by
  unfold rowOf
  split
  · exact h.fit _ (by omega)
  · simp

/-- What Until returns. -/
def untE (l : List Ent) (r : Int) : Int × Bool := match lookE l r with
  | some x => (x.t, true)
  | none => (0, false)

set_option maxRecDepth 100000 in
set_option maxHeartbeats 3200000 in
theorem until_none (w : World) (u r : Int) : Calls Tryd.prog 23 #[.pointer none, .int .i64 u, .int .i64 r] w fun e w' => e = .returned (.tuple #[.int .i64 0, .bool false]) ∧ Kept (fun _ => False) w w' := by
  have hz : Asc [] := fun i j _ hj => by simp at hj
  go_enter Tryd.func23, Tryd.ntmps23
  go_wp2_with (first
    | (go_at_call 48; refine (mof_none _ _).mono ?_; rintro e W1 ⟨rfl, rfl⟩)
    | (go_at_call 47; refine (place_any _ _ [] r (Or.inl ⟨rfl, rfl⟩) hz (by simp)).mono ?_; rintro e W1 ⟨i, rfl, hp, k1⟩
       rw [show foundAt [] r i = false by unfold foundAt; simp]
       have K1 := Lib.hid k1; clear k1 hp))
  go_ret2
  exact ⟨rfl, K1.out⟩

set_option maxRecDepth 100000 in
set_option maxHeartbeats 3200000 in
theorem until_any (w : World) (v : Value) (M : Nat) (H : Nat → List Ent) (u r : Int) (h : BookV w v M H) (hM : M ≤ 100000) :
    Calls Tryd.prog 23 #[v, .int .i64 u, .int .i64 r] w fun e w' => e = .returned (.tuple #[.int .i64 (untE (rowOf H u) r).1, .bool (untE (rowOf H u) r).2]) ∧ Kept (fun _ => False) w w' := by
  have h0 := h
  obtain ⟨bb, hv, rfl, hb, hr⟩ := h
  have HA := Lib.hid (rowOf_asc hr u)
  have hlen : (rowOf H u).length ≤ 1000000 := Nat.le_trans (rowOf_len hb u) (by omega)
  have HB := Lib.hid h0
  clear h0 hb hr
  go_enter Tryd.func23, Tryd.ntmps23
  go_wp2_with (first
    | (go_at_call 48; refine (mof_any w _ M H u HB.out).mono ?_; rintro e W1 ⟨rv, rfl, he, rfl⟩
       obtain ⟨a, c, rfl, hc1, hc2⟩ := he.form
       have HE := Lib.hid he; clear he)
    | (go_at_call 47; refine (place_any w _ (rowOf H u) r HE.out HA.out hlen).mono ?_; rintro e W1 ⟨i, rfl, hp, k1⟩
       obtain ⟨fd, hfd⟩ : ∃ fd, fd = foundAt (rowOf H u) r i := ⟨_, rfl⟩
       rw [← hfd]
       have HFd := Lib.hid hfd; have HP := Lib.hid hp; have K1 := Lib.hid k1
       clear hp k1 hfd
       cases fd
       all_goals (try (
         have hif := found_lt HFd.out
         obtain ⟨g, off, rfl, hg, he2⟩ := (HE.out.kept K1.out (fun _ _ h => h)).at (k := i) hif
         generalize hx : (rowOf H u).getD i ent0 = x at he2
         obtain ⟨xu, xr, xt⟩ := x
         obtain ⟨e0, e1, e2⟩ := he2
         simp only at e0 e1 e2
         have HX := Lib.hid hx
         clear hx))))
  · go_ret2
    have : untE (rowOf H u) r = (0, false) := by unfold untE; rw [look_none HA.out HP.out HFd.out.symm]
    rw [this]
    exact ⟨rfl, K1.out⟩
  · go_ret2
    have : untE (rowOf H u) r = (xt, true) := by unfold untE; rw [look_found HA.out HP.out HFd.out.symm, HX.out]
    rw [this]
    exact ⟨rfl, K1.out⟩

set_option maxRecDepth 100000 in
set_option maxHeartbeats 3200000 in
theorem active_any (t d : Int) (w : World) : Calls Tryd.prog 57 #[.int .i64 t, .int .i64 d] w fun e w' => e = .returned (.bool (actE t d)) ∧ w = w' := by
  unfold actE
  go_enter Tryd.func57, Tryd.ntmps57
  by_cases h : 0 ≤ d
  · go_wp2_with fail
    go_ret
    simp [h]
  · go_wp2_with fail
    go_ret
    simp [h]
    omega
end Go.Proofs.YtccanbjnbmihgaaDoor
