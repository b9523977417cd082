import Derived.Test.YtjglnpijngdpkaaGreatDoorDyW
import Derived.Deep.RegionWith
/-
  Days: two sets combined (Or).
-/
namespace Go.Proofs.YtjglnpijngdpkaaGreatDoor
open Go.RowKit
set_option linter.unusedSimpArgs false
set_option linter.unusedVariables false
set_option maxRecDepth 100000

def fOr (a b : Bool) : Bool := a || b
def fAnd (a b : Bool) : Bool := a && b
def fMinus (a b : Bool) : Bool := a && !b
theorem info_intD : (Tryz.prog.info? 3).map (fun i => (i.zero, i.size, i.bytes)) = some (some (.int .i64 0), EI.z, 8) := by kernel_rfl
theorem insideD_at (x : Int) (n : Nat) (hx : x = (n : Int)) (w : World) : Calls Tryz.prog 59 #[.int .i64 x] w fun e w' => e = .returned (.bool (oddD n)) ∧ w = w' := by
  subst hx; exact insideD_any n w
/-- What the loop keeps. -/
structure CbInv (f : Bool → Bool → Bool) (w wr : World) (v : Value) (acc t u : List Int) (i j : Nat) (p : Int) : Prop where
  row : OwnG EI 3 w.heap.size wr v acc
  inv : CmbI f t u acc i j p
  kept : Kept (fun _ => False) w wr
theorem oneEI (W : World) (d : Int) : RowG EI (W.alloc (.cells #[.int .i64 d] 3)) (.slice (some ⟨W.heap.size, 0, none⟩) 1 1) [d] := RowG.new W #[.int .i64 d] 3 1 [d] rfl rfl (by unfold maxLen; omega)
/-- One round of it, in plain words. -/
theorem cb_round {f : Bool → Bool → Bool} {t u acc : List Int} {i j : Nat} {p : Int} (ht : CanD t) (hu : CanD u) (h : CmbI f t u acc i j p) (hlt : i < t.length ∨ j < u.length) :
    ∃ d i' j', d = min (turnD t i) (turnD u j) ∧ i' = (if turnD t i = d then i + 1 else i) ∧ j' = (if turnD u j = d then j + 1 else j) ∧ CmbI f t u (if f (oddD i') (oddD j') != oddD acc.length then acc ++ [d] else acc) i' j' (d + 1) ∧ i + j < i' + j' ∧ i' ≤ t.length ∧ j' ≤ u.length := by
  obtain ⟨g, _, _, _, hs, h1, h2⟩ := CmbI.step ht hu h hlt _ rfl
  exact ⟨_, _, _, rfl, rfl, rfl, g, hs, h1, h2⟩

end Go.Proofs.YtjglnpijngdpkaaGreatDoor
