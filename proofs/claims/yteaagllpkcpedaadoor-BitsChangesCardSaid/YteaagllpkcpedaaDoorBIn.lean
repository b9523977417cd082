/-
  Slices of ints and of bytes that came in.
-/
import Derived.Test.YteaagllpkcpedaaDoorArgIn
import Derived.Test.YteaagllpkcpedaaDoorOf
import Derived.OpenShut
import Derived.Lib.SmallJoins
namespace Go.Proofs.YteaagllpkcpedaaDoor
open Go.ChangeShapes Go.WideShapes Go.ChangeAt Go.RowKit Go.Joins

theorem in_ints {P : Program} {W : World} {base : Nat} {t e : TypeId} {a : Option Addr} {len cap : Nat} {zs : List Int} (ht : P.underlying t = some (.slice e)) (h : Value.okWide P W .any base t (.slice a len cap))
    (hr : (a = none ∧ len = 0 ∧ cap = 0 ∧ zs = []) ∨ ∃ x, a = some x ∧ len ≤ cap ∧ cap ≤ maxLen ∧ zs.length = cap ∧ (∀ i, i < zs.length → W.cell? (x.add i) = some (.int .i64 (zs.getD i 0)))) :
    Ints W (.slice a len cap) (zs.take len) := by
  rcases hr with ⟨rfl, rfl, rfl, rfl⟩ | ⟨x, rfl, hl, hm, hz, hc⟩
  · exact Or.inl ⟨rfl, rfl⟩
  · obtain ⟨hs, hb⟩ := okWide_at ht h
    obtain ⟨g, off, spot⟩ := x
    simp only at hs hb
    subst hs
    have hlen : (zs.take len).length = len := by simp; omega
    refine Or.inr ⟨g, off, cap, by rw [hlen], by omega, hm, hb, fun i hi => ?_⟩
    rw [hlen] at hi
    have hadd : (⟨g, off, none⟩ : Addr).add i = ⟨g, off + i, none⟩ := by unfold Addr.add; split <;> simp_all
    have := hc i (by omega)
    rw [hadd] at this
    rw [this]
    simp [List.getD, hi]

set_option maxRecDepth 100000 in
/-- A slice of ints that came in: it reads as numbers. -/
theorem ints_in {H : Type} {enc : TypeId × Value → H} {W : World} {base : Nat} {v : Value} {d : DataW H} {p : List MemPlace} (o : Value.okWide Tryd.prog W .any base 22 v) (h : DataW.Trod enc Tryd.prog W 0 (fun _ => true) true 22 v d p) :
    ∃ xs, Ints W v xs := by
  obtain ⟨a, len, cap, rfl⟩ := okWide_slice Tryd.underlying22 o
  have o' := o
  obtain ⟨fuel, hf⟩ := h
  rcases open_ints Tryd.underlying22 Tryd.underlying3 (by kernel_rfl) hf with ⟨hcs, _⟩ | ⟨x, l, c, zs, hcs, _, hl, hm, hz, _, hcell, hwz⟩
  · simp [Value.cells] at hcs
    obtain ⟨rfl, rfl, rfl⟩ := hcs
    exact ⟨_, in_ints Tryd.underlying22 o' (zs := []) (.inl ⟨rfl, rfl, rfl, rfl⟩)⟩
  · simp [Value.cells] at hcs
    obtain ⟨rfl, rfl, rfl⟩ := hcs
    exact ⟨_, in_ints Tryd.underlying22 o' (zs := zs) (.inr ⟨_, rfl, hl, hm, by simpa using hz, hcell⟩)⟩
end Go.Proofs.YteaagllpkcpedaaDoor
