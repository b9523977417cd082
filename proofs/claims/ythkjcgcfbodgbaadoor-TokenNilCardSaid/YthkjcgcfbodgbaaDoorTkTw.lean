/-
  Tokens: two readers laid for the same tokens.
-/
import Derived.Test.YthkjcgcfbodgbaaDoorTkCl
namespace Go.Proofs.YthkjcgcfbodgbaaDoor
open Go.RowKit Go.Shelf
set_option linter.unusedVariables false

/-- The two readers that were laid for the same tokens, in either order. -/
theorem two_new {w a b c : World} {g h : Nat} {gv hv : Value} {l : List Tok} (hk : ∀ i, i < l.length → (l.getD i tok0).k < 256) (k1 : Kept (fun _ => False) w a) (h1 : RdP b g gv l ⟨0, 0, 0⟩) (hg : a.heap.size ≤ g) (hgv : ∀ k, gv.ownBlock = some k → a.heap.size ≤ k) (k2 : Kept (fun _ => False) a b)
    (h2 : RdR c h hv l ⟨0, 0, 0⟩) (hh : b.heap.size ≤ h) (hhv : ∀ k, hv.ownBlock = some k → k < a.heap.size) (k3 : Kept (fun _ => False) b c) :
    Two c g h gv hv l ⟨0, 0, 0⟩ ∧ w.heap.size ≤ g ∧ w.heap.size ≤ h ∧ Kept (fun _ => False) w c := by
  have hlt := h1.lt
  have s1 := k1.size; have s2 := k2.size
  exact ⟨⟨h1.stay k3, h2, by omega, fun k e => by have := h1.row.lt k e; omega, fun k e => by have := hhv k e; omega, hk⟩, by omega, by omega, (k1.then k2).then k3⟩
theorem two_new2 {w a b c : World} {g h : Nat} {gv hv : Value} {l : List Tok} (hk : ∀ i, i < l.length → (l.getD i tok0).k < 256) (k1 : Kept (fun _ => False) w a) (h2 : RdR b h hv l ⟨0, 0, 0⟩) (hh : a.heap.size ≤ h) (hhv : ∀ k, hv.ownBlock = some k → k < a.heap.size) (k2 : Kept (fun _ => False) a b)
    (h1 : RdP c g gv l ⟨0, 0, 0⟩) (hg : b.heap.size ≤ g) (hgv : ∀ k, gv.ownBlock = some k → b.heap.size ≤ k) (k3 : Kept (fun _ => False) b c) :
    Two c g h gv hv l ⟨0, 0, 0⟩ ∧ w.heap.size ≤ g ∧ w.heap.size ≤ h ∧ Kept (fun _ => False) w c := by
  have hlt := h2.lt
  have s1 := k1.size; have s2 := k2.size
  exact ⟨⟨h1, h2.stay k3, by omega, fun k e => by have := hgv k e; omega, fun k e => by have := hhv k e; omega, hk⟩, by omega, by omega, (k1.then k2).then k3⟩

end Go.Proofs.YthkjcgcfbodgbaaDoor
