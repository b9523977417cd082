/-
  names.Of and the reference's Of; arbaclaw08.NamesOf returns true.
-/
import Derived.Test.YtneappinkfhjmaaDoorNamAd
namespace Go.Proofs.YtneappinkfhjmaaDoor
open Go.RowKit

/-- Names that are added one after the other: the first error, and the names. -/
def ofS (most : Int) : List ByteArray → List ByteArray → Int × List ByteArray
  | xs, [] => (0, xs)
  | xs, y :: ys => if refS xs y most = 0 then ofS most (xs ++ [y]) ys else (refS xs y most, [])
theorem ofS_take {most : Int} {ys : List ByteArray} {k : Nat} (hk : k < ys.length) (h : ofS most [] ys = ofS most (ys.take k) (ys.drop k)) (hr : refS (ys.take k) (ys.getD k ⟨#[]⟩) most = 0) :
    ofS most [] ys = ofS most (ys.take (k + 1)) (ys.drop (k + 1)) := by
  have hg : ys.getD k ⟨#[]⟩ = ys[k] := by simp [List.getD, hk]
  rw [h, List.drop_eq_getElem_cons hk, ofS, ← hg, if_pos hr, hg, List.take_succ_eq_append_getElem hk]
theorem ofS_stop {most : Int} {ys : List ByteArray} {k : Nat} (hk : k < ys.length) (h : ofS most [] ys = ofS most (ys.take k) (ys.drop k)) (hr : refS (ys.take k) (ys.getD k ⟨#[]⟩) most ≠ 0) :
    ofS most [] ys = (refS (ys.take k) (ys.getD k ⟨#[]⟩) most, []) := by
  have hg : ys.getD k ⟨#[]⟩ = ys[k] := by simp [List.getD, hk]
  rw [h, List.drop_eq_getElem_cons hk, ofS, ← hg, if_neg hr]
theorem ofS_all {most : Int} {ys : List ByteArray} (h : ofS most [] ys = ofS most (ys.take ys.length) (ys.drop ys.length)) : ofS most [] ys = (0, ys) := by
  rw [h, List.take_length, List.drop_length, ofS]

/-- What Of's loop keeps: the table of the names so far, all of it new. -/
structure OfInv (w wr : World) (g : Nat) (xs : List ByteArray) : Prop where
  tab : ∃ v m n D, TabAt wr g xs v m n D ∧ (∀ k, v.ownBlock = some k → w.heap.size ≤ k) ∧ w.heap.size ≤ m
  ge : w.heap.size ≤ g
  kept : Kept (fun _ => False) w wr
theorem OfInv.on {w w1 w2 : World} {g : Nat} {xs : List ByteArray} (h : OfInv w w1 g xs) (hk : Kept (fun _ => False) w1 w2) : OfInv w w2 g xs := by
  obtain ⟨v, m, n, D, ht, h1, h2⟩ := h.tab
  exact ⟨⟨v, m, n, D, ht.stay hk, h1, h2⟩, h.ge, h.kept.then hk⟩

end Go.Proofs.YtneappinkfhjmaaDoor
