/-
  A parameter of 32 bytes, opened.
-/
import Derived.Test.YtnjmffmdlaobdabDoorKecZ
import Derived.Test.YtnjmffmdlaobdabDoorKecCard
import Derived.WalkKit
import Derived.ProofKit
import Derived.OpenShut
import Derived.ChangeOld
import Derived.Below
import Derived.LaidMore
import Derived.Stop.Joined
import Derived.SevenTiedAt
import Derived.Lib.SmallJoins
import Derived.Laws.IdiomArrays
namespace Go.Proofs.YtnjmffmdlaobdabDoor
open Go.ChangeShapes Go.WideShapes Go.ChangeAt Go.RowKit Go.Joins
set_option linter.constructorNameAsVariable false

theorem okWide_arr {P : Program} {w : World} {r : Reach} {base n : Nat} {t e : TypeId} {v : Value} (ht : P.underlying t = some (.array n e)) (h : Value.okWide P w r base t v) : ∃ cs, v = .agg cs ∧ cs.size = P.cellsOf t := by
  simp only [Value.okWide, ht] at h
  obtain ⟨cs, h1, h2, _⟩ := h
  exact ⟨cs, h1, h2⟩
set_option maxRecDepth 100000 in
/-- An array of 32 bytes that came in. -/
theorem arr32_in {H : Type} {enc : TypeId × Value → H} {W : World} {v : Value} {dd : DataW H} {p : List MemPlace} {base : Nat} (o : Value.okWide Tryd.prog W .any base 24 v) (h : DataW.Trod enc Tryd.prog W 0 (fun _ => true) true 24 v dd p) :
    ∃ d : List Nat, v = .agg (arr8 d).toArray ∧ d.length = 32 ∧ ∀ x ∈ d, x < 256 := by
  obtain ⟨cs, rfl, hsz⟩ := okWide_arr Tryd.underlying24 o
  obtain ⟨fuel, hf⟩ := h
  obtain ⟨xs, m, _, _, hl, hxl, hi⟩ := DataW.trod_array Tryd.underlying24 hf
  have hl32 : cs.toList.length = 32 := by
    have : (Value.agg cs).cells.toList.length = 32 := hl.trans (by kernel_rfl)
    simpa [Value.cells] using this
  have key : ∀ i, i < 32 → ∃ n : Nat, cs.toList[i]? = some (.int .u8 (n : Int)) ∧ n < 256 := fun i hi32 => by
    have h1 := hi i hi32
    rw [cells8] at h1
    obtain ⟨x, hx⟩ : ∃ x, xs[i]? = some x := ⟨xs[i], List.getElem?_eq_getElem (by omega)⟩
    rw [hx] at h1
    obtain ⟨z, hc, _, hw⟩ := DataW.trod_int Tryd.underlying5 h1
    obtain ⟨n, rfl, hn⟩ := u8_nat _ hw
    refine ⟨n, ?_, hn⟩
    have := congrArg (·[0]?) hc
    simpa [Value.cells, List.getElem?_take, List.getElem?_drop] using this
  obtain ⟨f, hfn⟩ := Classical.axiomOfChoice (fun i : Fin 32 => key i.1 i.2)
  refine ⟨(List.finRange 32).map f, ?_, by simp, fun x hx => ?_⟩
  · congr 1
    apply Array.ext'
    apply List.ext_getElem?
    intro i
    by_cases hi32 : i < 32
    · rw [(hfn ⟨i, hi32⟩).1]
      simp [arr8, hi32]
    · rw [List.getElem?_eq_none (by omega), List.getElem?_eq_none (by simp [arr8]; omega)]
  · simp only [List.mem_map] at hx
    obtain ⟨i, _, rfl⟩ := hx
    exact (hfn i).2
end Go.Proofs.YtnjmffmdlaobdabDoor
