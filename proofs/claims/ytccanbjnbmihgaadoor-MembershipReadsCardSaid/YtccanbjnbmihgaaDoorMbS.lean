/-
  Rows written into: cells set one behind the other in a row of one's own; copy of rows whose elements take several cells.
-/
import Derived.Test.YtccanbjnbmihgaaDoorMbC
import Derived.Laws.IdiomCopy
import Derived.Lib.AppendZerosOnto
import Derived.Deep.Upon
namespace Go.Proofs.YtccanbjnbmihgaaDoor
open Go.RowKit
set_option linter.unusedVariables false

theorem heap_setCells_same (g : Nat) (e : TypeId) : ∀ (vs : List Value) (o : Nat) (w : World) (cur : Array Value), w.heap[g]? = some (.cells cur e (0, 0)) → o + vs.length ≤ cur.size →
    ∃ cur' : Array Value, (w.setCells g o vs).heap[g]? = some (.cells cur' e (0, 0)) ∧ cur'.size = cur.size ∧ ∀ j, cur'.toList[j]? = if o ≤ j ∧ j < o + vs.length then vs[j - o]? else cur.toList[j]?
  | [], o, w, cur, h, _ => ⟨cur, h, rfl, fun j => by rw [if_neg (by simp)]⟩
  | v :: r, o, w, cur, h, hl => by
    have hl' : o + 1 + r.length ≤ cur.size := by simp only [List.length_cons] at hl; omega
    obtain ⟨cur', h1, h2, h3⟩ := heap_setCells_same g e r (o + 1) (w.setCell ⟨g, o, none⟩ v) (cur.setIfInBounds o v) (heap_setCell_same w g o cur e v h) (by simpa using hl')
    refine ⟨cur', by rw [World.setCells]; exact h1, by simpa using h2, fun j => ?_⟩
    rw [h3 j]
    by_cases hj : j = o
    · subst hj
      rw [if_neg (by omega), if_pos (by simp), Nat.sub_self]
      simp only [Array.toList_setIfInBounds, List.getElem?_cons_zero]
      rw [List.getElem?_set_self (by simp; omega)]
    · by_cases hin : o + 1 ≤ j ∧ j < o + 1 + r.length
      · rw [if_pos hin, if_pos (by simp only [List.length_cons]; omega)]
        rw [show j - o = (j - (o + 1)) + 1 by omega, List.getElem?_cons_succ]
      · rw [if_neg hin, if_neg (by simp only [List.length_cons]; omega)]
        rw [Array.toList_setIfInBounds, List.getElem?_set_ne (by omega)]

theorem setCells_kept (g : Nat) : ∀ (vs : List Value) (o : Nat) (w : World), Kept (fun k => k = g) w (w.setCells g o vs)
  | [], _, w => Kept.refl _ _
  | v :: r, o, w => by
    rw [World.setCells]
    exact (Kept.setCell (fun k => k = g) w ⟨g, o, none⟩ v rfl).trans (setCells_kept g r (o + 1) _) (fun _ _ h => h) (fun _ _ h => h)

/-- 'copy' where an element takes several cells. -/
theorem run_copy_wide {P : Program} (w : World) (dT sT ty elem : TypeId) (b o dLen dCap : Nat) (a : Addr) (sLen sCap z : Nat) (cs : List Value)
    (hu : P.underlying dT = some (.slice elem)) (hs : (P.info? elem).map (·.size) = some z) (hn : cs.length = Nat.min sLen dLen * z)
    (hsrc : ∀ j v, cs[j]? = some v → w.cell? (a.add j) = some v) (hc : ∀ j, j < cs.length → (w.cell? ⟨b, o + j, none⟩).isSome = true) (hf : ∀ j, j < cs.length → w.frozen? ⟨b, o + j, none⟩ = false) (h1 : ∀ v ∈ cs, v.oneCell' = true) :
    (Builtin.copy_ #[dT, sT] ty #[.slice (some ⟨b, o, none⟩) dLen dCap, .slice (some a) sLen sCap]).run P w = .ok (goInt (Nat.min sLen dLen)) (w.setCells b o cs) := by
  have hl := run_loadCells_list (P := P) w a cs hsrc
  have hst := run_storeCells_cells (P := P) b o cs 0 w (by simpa using hc) (by simpa using hf) h1
  cases hq : P.info? elem with
  | none => simp [hq] at hs
  | some i =>
    have hi : i.size = z := by simpa [hq] using hs
    simp [Builtin.copy_, run_underlying hu, Builtin.lenOf, Builtin.firstCells, sizeOf, typeInfo, hq, hi, ← hn, hl, hst]

/-- A row of one's own, its cells set. -/
theorem row_set {T : TypeId} {B g n c n' : Nat} {w : World} {xs ys vs : List Value} {z : Nat} (h : w.ownsRow B T z (.slice (some ⟨g, 0, none⟩) n c) n xs) (o : Nat) (hn' : n' ≤ c) (hv : o + vs.length ≤ c * z) (hy : ys.length = n' * z)
    (he : ∀ cur : List Value, cur.length = c * z → cur.take (n * z) = xs → ∀ j, j < n' * z → ys[j]? = if o ≤ j ∧ j < o + vs.length then vs[j - o]? else cur[j]?) :
    (w.setCells g o vs).ownsRow B T z (.slice (some ⟨g, 0, none⟩) n' c) n' ys := by
  rcases h.2 with ⟨h', _⟩ | ⟨g', cap', cur, h', hb, hg, hnc, hcm, hcs, htake⟩
  · cases h'
  · cases h'
    obtain ⟨cur', h1, h2, h3⟩ := heap_setCells_same g T vs o w cur hg (by omega)
    refine ⟨hy, .inr ⟨g, c, cur', rfl, hb, h1, hn', hcm, by omega, ?_⟩⟩
    apply List.ext_getElem?
    intro j
    have hm : n' * z ≤ c * z := Nat.mul_le_mul_right z hn'
    by_cases hj : j < n' * z
    · rw [List.getElem?_take_of_lt hj, h3 j, he cur.toList (by simpa using hcs) htake j hj]
    · rw [List.getElem?_eq_none (by rw [List.length_take]; omega), List.getElem?_eq_none (by omega)]
end Go.Proofs.YtccanbjnbmihgaaDoor
