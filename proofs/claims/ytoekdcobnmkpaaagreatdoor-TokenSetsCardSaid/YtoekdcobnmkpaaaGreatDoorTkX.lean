/-
  Tokens: readers: Next, Is, the program's and the reference's.
-/
import Derived.Test.YtoekdcobnmkpaaaGreatDoorTkW
namespace Go.Proofs.YtoekdcobnmkpaaaGreatDoor
open Go.RowKit Go.Shelf
set_option linter.unusedSimpArgs false
set_option linter.unusedVariables false


theorem RdR.setNx2 {w : World} {g : Nat} {lv : Value} {l : List Tok} {nx er : Nat} {of : Int} (h : RdR w g lv l ⟨nx, er, of⟩) (hn : nx < l.length) :
    RdR (w.setCell ⟨g, 1, none⟩ (.int .i64 ((nx : Int) + 1))) g lv l ⟨nx + 1, er, of⟩ ∧ Kept (fun k => k = g) w (w.setCell ⟨g, 1, none⟩ (.int .i64 ((nx : Int) + 1))) := by
  have h2 := h.setNx hn
  have e : ((nx + 1 : Nat) : Int) = (nx : Int) + 1 := by omega
  simp only at h2
  rw [e] at h2
  exact h2
theorem RdR.boxed {w : World} {g : Nat} {lv : Value} {l : List Tok} {r : RS} (h : RdR w g lv l r) (b : Nat) (hb : b ≠ g) (hl : ∀ k, lv.ownBlock = some k → k ≠ b) (a0 a1 a2 a3 : Value) :
    RdR ((((w.setCell ⟨b, 0, none⟩ a0).setCell ⟨b, 1, none⟩ a1).setCell ⟨b, 2, none⟩ a2).setCell ⟨b, 3, none⟩ a3) g lv l r :=
  h.kept (keptBox w b a0 a1 a2 a3) (fun e => hb e.symm) hl

end Go.Proofs.YtoekdcobnmkpaaaGreatDoor
