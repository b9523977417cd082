/-
  wire.Reader: bounded, Uint, End.
-/
import Derived.Test.YtncieckanngodaaDoorNumber
import Derived.Test.YtncieckanngodaaDoorRead1
namespace Go.Proofs.YtncieckanngodaaDoor
open Go.RowKit

/-- What 'bounded' gives: the number, the bytes that are left, the error. -/
def boundedS (xs : List Nat) (most : Nat) (above err : Int) : Nat × List Nat × Int :=
  if (numberS xs).2 = 0 then (0, xs, 6) else if most < (numberS xs).1 then (0, xs, above) else ((numberS xs).1, xs.drop (numberS xs).2, err)

/-- What 'Uint' gives. -/
def uintS (xs : List Nat) (most : Nat) (err : Int) : Nat × List Nat × Int := if err = 0 then boundedS xs most 2 0 else (0, xs, err)

set_option maxRecDepth 100000 in
set_option maxHeartbeats 800000 in
theorem end_any (w : World) (rb : Nat) (v : Value) (xs : List Nat) (err : Int) (h : Rd w rb v xs err) :
    Calls Tryd.prog 31 #[.pointer (some ⟨rb, 0, none⟩)] w fun e w' => e = .returned (.int .i64 (if err = 0 ∧ 0 < xs.length then 6 else err)) ∧ w = w' := by
  have c1 := h.cell1
  obtain ⟨a, c, c0⟩ : ∃ a c, w.cell? ⟨rb, 0, none⟩ = some (.slice a xs.length c) := by
    rcases h.reads with ⟨rfl, rfl⟩ | ⟨g, off, cap, rfl, _⟩
    · exact ⟨none, 0, h.cell0⟩
    · exact ⟨_, _, h.cell0⟩
  clear h
  generalize xs.length = len at c0
  by_cases he : err = 0
  · subst he
    by_cases hl : 0 < len
    · rw [if_pos ⟨rfl, hl⟩]
      go_enter Tryd.func31, Tryd.ntmps31
      go_wp2_with fail
      refine (ready_yes w rb c1).mono ?_
      rintro e w' ⟨rfl, rfl⟩
      go_wp2_with fail
      go_ret
      exact ⟨rfl, rfl⟩
    · rw [if_neg (fun h => hl h.2)]
      go_enter Tryd.func31, Tryd.ntmps31
      go_wp2_with fail
      refine (ready_yes w rb c1).mono ?_
      rintro e w' ⟨rfl, rfl⟩
      go_wp2_with fail
      refine (err_any w rb 0 c1).mono ?_
      rintro e w' ⟨rfl, rfl⟩
      go_wp2_with fail
      go_ret
      exact ⟨rfl, rfl⟩
  · rw [if_neg (fun h => he h.1)]
    go_enter Tryd.func31, Tryd.ntmps31
    go_wp2_with fail
    refine (ready_no w rb err he c1).mono ?_
    rintro e w' ⟨rfl, rfl⟩
    go_wp2_with fail
    refine (err_any w rb err c1).mono ?_
    rintro e w' ⟨rfl, rfl⟩
    go_wp2_with fail
    go_ret
    exact ⟨rfl, rfl⟩

end Go.Proofs.YtncieckanngodaaDoor
