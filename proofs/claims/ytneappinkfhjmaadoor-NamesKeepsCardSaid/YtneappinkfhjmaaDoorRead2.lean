/-
  wire.Reader: bounded, Uint, End.
-/
import Derived.Test.YtneappinkfhjmaaDoorNumber
import Derived.Test.YtneappinkfhjmaaDoorRead1
namespace Go.Proofs.YtneappinkfhjmaaDoor
open Go.RowKit

/-- What 'bounded' gives: the number, the bytes that are left, the error. -/
def boundedS (xs : List Nat) (most : Nat) (above err : Int) : Nat × List Nat × Int :=
  if (numberS xs).2 = 0 then (0, xs, 6) else if most < (numberS xs).1 then (0, xs, above) else ((numberS xs).1, xs.drop (numberS xs).2, err)

set_option maxRecDepth 100000 in
set_option maxHeartbeats 800000 in
theorem bounded_any (w : World) (rb : Nat) (v : Value) (xs : List Nat) (err above : Int) (most : Nat) (h : Rd w rb v xs err) (hby : ∀ b ∈ xs, b < 256) :
    Calls Tryd.prog 73 #[.pointer (some ⟨rb, 0, none⟩), .int .u64 most, .int .i64 above] w fun e w' =>
      e = .returned (.int .u64 (boundedS xs most above err).1) ∧ ∃ v', Rd w' rb v' (boundedS xs most above err).2.1 (boundedS xs most above err).2.2 ∧ v'.ownBlock = v.ownBlock ∧ Kept (fun k => k = rb) w w' := by
  have hcall := number_any v xs w h.reads hby
  have hle := numberS_le xs
  have hB : boundedS xs most above err = if (numberS xs).2 = 0 then (0, xs, 6) else if most < (numberS xs).1 then (0, xs, above) else ((numberS xs).1, xs.drop (numberS xs).2, err) := rfl
  generalize numberS xs = q at hcall hle hB
  obtain ⟨x, n⟩ := q
  simp only at hcall hle hB
  have HC := Lib.hid hcall; clear hcall
  have c0 := h.cell0; have c1 := h.cell1; have f1 := h.free1; have hlt := h.lt
  have HH := Lib.hid h; clear h
  have HY := Lib.hid hby; clear hby
  by_cases hn : n = 0
  · subst hn
    rw [if_pos rfl] at hB
    rw [hB]
    clear hB
    go_enter Tryd.func73, Tryd.ntmps73
    go_wp2_with fail
    refine HC.out.mono ?_
    rintro e w' ⟨rfl, rfl⟩
    go_wp2_with fail
    go_ret
    exact ⟨rfl, v, HH.out.setErr 6, rfl, Kept.setCell _ _ _ _ rfl⟩
  · rw [if_neg hn] at hB
    have hn' : ((n : Int) == 0) = false := by simp; omega
    have HN := Lib.hid hn; clear hn
    by_cases hx : most < x
    · rw [if_pos hx] at hB
      rw [hB]
      clear hB
      go_enter Tryd.func73, Tryd.ntmps73
      go_wp2_with fail
      refine HC.out.mono ?_
      rintro e w' ⟨rfl, rfl⟩
      go_wp2_with fail
      go_ret
      exact ⟨rfl, v, HH.out.setErr above, rfl, Kept.setCell _ _ _ _ rfl⟩
    · rw [if_neg hx] at hB
      rw [hB]
      clear hB
      go_enter Tryd.func73, Tryd.ntmps73
      go_wp2_with fail
      refine HC.out.mono ?_
      rintro e w' ⟨rfl, rfl⟩
      go_wp2_with fail
      refine (take_any w rb v xs err n HH.out hle).mono ?_
      rintro e w1 ⟨p, v', rfl, hr, hp, hv, hpv, hk⟩
      have HV := Lib.hid hv; clear hv
      have HPV := Lib.hid hpv; clear hpv
      go_wp2_with fail
      go_ret
      exact ⟨rfl, v', hr, HV.out, hk⟩

/-- What 'Uint' gives. -/
def uintS (xs : List Nat) (most : Nat) (err : Int) : Nat × List Nat × Int := if err = 0 then boundedS xs most 2 0 else (0, xs, err)

set_option maxRecDepth 100000 in
set_option maxHeartbeats 800000 in
theorem end_any (w : World) (rb : Nat) (v : Value) (xs : List Nat) (err : Int) (h : Rd w rb v xs err) :
    Calls Tryd.prog 22 #[.pointer (some ⟨rb, 0, none⟩)] w fun e w' => e = .returned (.int .i64 (if err = 0 ∧ 0 < xs.length then 6 else err)) ∧ w = w' := by
  have c1 := h.cell1
  obtain ⟨a, c, c0⟩ : ∃ a c, w.cell? ⟨rb, 0, none⟩ = some (.slice a xs.length c) := by
    rcases h.reads with ⟨rfl, rfl⟩ | ⟨g, off, cap, rfl, _⟩
    · exact ⟨none, 0, h.cell0⟩
    · exact ⟨_, _, h.cell0⟩
  clear h
  generalize xs.length = len at c0
  by_cases he : err = 0
  · subst he
    by_cases hl : 0 < len
    · rw [if_pos ⟨rfl, hl⟩]
      go_enter Tryd.func22, Tryd.ntmps22
      go_wp2_with fail
      refine (ready_yes w rb c1).mono ?_
      rintro e w' ⟨rfl, rfl⟩
      go_wp2_with fail
      go_ret
      exact ⟨rfl, rfl⟩
    · rw [if_neg (fun h => hl h.2)]
      go_enter Tryd.func22, Tryd.ntmps22
      go_wp2_with fail
      refine (ready_yes w rb c1).mono ?_
      rintro e w' ⟨rfl, rfl⟩
      go_wp2_with fail
      refine (err_any w rb 0 c1).mono ?_
      rintro e w' ⟨rfl, rfl⟩
      go_wp2_with fail
      go_ret
      exact ⟨rfl, rfl⟩
  · rw [if_neg (fun h => he h.1)]
    go_enter Tryd.func22, Tryd.ntmps22
    go_wp2_with fail
    refine (ready_no w rb err he c1).mono ?_
    rintro e w' ⟨rfl, rfl⟩
    go_wp2_with fail
    refine (err_any w rb err c1).mono ?_
    rintro e w' ⟨rfl, rfl⟩
    go_wp2_with fail
    go_ret
    exact ⟨rfl, rfl⟩

end Go.Proofs.YtneappinkfhjmaaDoor
