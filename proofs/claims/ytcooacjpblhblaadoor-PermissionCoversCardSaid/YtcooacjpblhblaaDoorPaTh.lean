/-
  Trees of paths: those paths of which a function says so, in their order.
-/
import Derived.Test.YtcooacjpblhblaaDoorPaAd
import Derived.Test.YtcooacjpblhblaaDoorPaSr
import Derived.Laws.IdiomRangeMap
namespace Go.Proofs.YtcooacjpblhblaaDoor
open Go.RowKit Go.Maps Go.WideMaps Go.ChangeMaps
set_option linter.unusedSimpArgs false
set_option linter.unusedVariables false

theorem ranges_kept {a b : World} {bs r n cnt : Nat} {D : DataW Unit} {left : Lit → Bool} (h : a.ranges Tryd.prog 9 (plainElem Tryd.prog 4) bs r n D left cnt) (hk : Kept (fun _ => False) a b) : b.ranges Tryd.prog 9 (plainElem Tryd.prog 4) bs r n D left cnt := by
  obtain ⟨es, clock, since, seen, c0, h1, h2, h3, h4, h5, h6⟩ := h
  exact ⟨es, clock, since, seen, c0, (hk.block bs (Array.getElem?_eq_some_iff.1 h1).1 (fun h => h)).trans h1, h2, h3, h4, (hk.block r (Array.getElem?_eq_some_iff.1 h5).1 (fun h => h)).trans h5, h6⟩

/-- What those answers. -/
structure ThoseRes (w w' : World) (ts : List ByteArray) (keep : ByteArray → Bool) (v : Value) (r : List ByteArray) : Prop where
  row : Strs w' v r
  sorted : SortedP r
  mem : ∀ x, x ∈ r ↔ x ∈ ts ∧ keep x = true
  kept : Kept (fun _ => False) w w'
  own : ∀ k, v.ownBlock = some k → w.heap.size ≤ k
  len : r.length ≤ ts.length

/-- What has been found so far. -/
structure ThChInv (w wr : World) (m n : Nat) (D : DataW Unit) (ts : List ByteArray) (keep : ByteArray → Bool) (v : Value) (acc : List ByteArray) (left : Lit → Bool) (cnt : Nat) : Prop where
  rg : wr.ranges Tryd.prog 9 (plainElem Tryd.prog 4) m w.heap.size n D left cnt
  row : OwnS wr w.heap.size v acc
  mem : ∀ s, s ∈ acc ↔ (s ∈ ts ∧ left (.string s.data.toList) = false ∧ keep s = true)
  nodup : acc.Nodup
  len : acc.length + cnt ≤ ts.length
  kept : Kept (fun _ => False) w wr

end Go.Proofs.YtcooacjpblhblaaDoor
