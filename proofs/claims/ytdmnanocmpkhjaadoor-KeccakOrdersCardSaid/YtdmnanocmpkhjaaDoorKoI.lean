/-
  Arrays of bytes that came in: 96 of them, two of them.
-/
import Derived.Test.YtdmnanocmpkhjaaDoorKoL
import Derived.Test.YtdmnanocmpkhjaaDoorKecCd
import Derived.WalkKit
import Derived.Lib.SmallJoins
import Derived.Laws.IdiomArrays
namespace Go.Proofs.YtdmnanocmpkhjaaDoor
open Go.ChangeShapes Go.WideShapes Go.ChangeAt Go.RowKit Go.Joins
set_option linter.constructorNameAsVariable false
set_option linter.unusedVariables false

theorem okWide_arrO {P : Program} {w : World} {r : Reach} {base n : Nat} {t e : TypeId} {v : Value} (ht : P.underlying t = some (.array n e)) (h : Value.okWide P w r base t v) : ∃ cs, v = .agg cs ∧ cs.size = P.cellsOf t := by
  simp only [Value.okWide, ht] at h
  obtain ⟨cs, h1, h2, _⟩ := h
  exact ⟨cs, h1, h2⟩
set_option maxRecDepth 100000 in
/-- The cells of an array of n bytes. -/
theorem bytesN {H : Type} {enc : TypeId × Value → H} {W : World} {n fuel : Nat} {t : TypeId} {cs : List Value} {y : DataW H × List MemPlace} (ht : Tryd.prog.underlying t = some (.array n 5)) (hc : Tryd.prog.cellsOf t = n)
    (hf : DataW.trod enc Tryd.prog W 0 (fun _ => true) true fuel t cs = some y) : ∃ d : List Nat, cs = arr8 d ∧ d.length = n ∧ ∀ x ∈ d, x < 256 := by
  obtain ⟨xs, m, _, _, hl, hxl, hi⟩ := DataW.trod_array ht hf
  rw [hc] at hl
  have key : ∀ i, i < n → ∃ b : Nat, cs[i]? = some (.int .u8 (b : Int)) ∧ b < 256 := fun i hin => by
    have h1 := hi i hin
    rw [cells8] at h1
    obtain ⟨x, hx⟩ : ∃ x, xs[i]? = some x := ⟨xs[i], List.getElem?_eq_getElem (by omega)⟩
    rw [hx] at h1
    obtain ⟨z, hcz, _, hw⟩ := DataW.trod_int Tryd.underlying5 h1
    obtain ⟨b, rfl, hb⟩ := u8_nat _ hw
    refine ⟨b, ?_, hb⟩
    have := congrArg (·[0]?) hcz
    simpa [List.getElem?_take, List.getElem?_drop] using this
  obtain ⟨f, hfn⟩ := Classical.axiomOfChoice (fun i : Fin n => key i.1 i.2)
  refine ⟨(List.finRange n).map f, ?_, by simp, fun x hx => ?_⟩
  · apply List.ext_getElem?
    intro i
    by_cases hin : i < n
    · rw [(hfn ⟨i, hin⟩).1]
      simp [arr8, hin]
    · rw [List.getElem?_eq_none (by omega), List.getElem?_eq_none (by simp [arr8]; omega)]
  · simp only [List.mem_map] at hx
    obtain ⟨i, _, rfl⟩ := hx
    exact (hfn i).2
set_option maxRecDepth 100000 in
theorem arr96_in {H : Type} {enc : TypeId × Value → H} {W : World} {v : Value} {dd : DataW H} {p : List MemPlace} {base : Nat} (o : Value.okWide Tryd.prog W .any base 23 v) (h : DataW.Trod enc Tryd.prog W 0 (fun _ => true) true 23 v dd p) :
    ∃ x y z : List Nat, v = .agg (arr8 (x ++ (y ++ z))).toArray ∧ x.length = 32 ∧ y.length = 32 ∧ z.length = 32 ∧ (∀ c ∈ x, c < 256) ∧ (∀ c ∈ y, c < 256) ∧ ∀ c ∈ z, c < 256 := by
  obtain ⟨cs, rfl, hsz⟩ := okWide_arrO Tryd.underlying23 o
  obtain ⟨fuel, hf⟩ := h
  obtain ⟨xs, m, _, _, hl, hxl, hi⟩ := DataW.trod_array Tryd.underlying23 hf
  have c32 : Tryd.prog.cellsOf 22 = 32 := by kernel_rfl
  have c96 : Tryd.prog.cellsOf 23 = 96 := by kernel_rfl
  have part : ∀ i, i < 3 → ∃ d : List Nat, (cs.toList.drop (i * 32)).take 32 = arr8 d ∧ d.length = 32 ∧ ∀ x ∈ d, x < 256 := fun i h3 => by
    have h1 := hi i h3
    rw [c32] at h1
    obtain ⟨x, hx⟩ : ∃ x, xs[i]? = some x := ⟨xs[i], List.getElem?_eq_getElem (by omega)⟩
    rw [hx] at h1
    exact bytesN Tryd.underlying22 c32 h1
  obtain ⟨x, e0, lx, bx⟩ := part 0 (by omega)
  obtain ⟨y, e1, ly, bY⟩ := part 1 (by omega)
  obtain ⟨z, e2, lz, bz⟩ := part 2 (by omega)
  have hl96 : cs.toList.length = 96 := by
    have : (Value.agg cs).cells.toList.length = 96 := hl.trans c96
    simpa [Value.cells] using this
  refine ⟨x, y, z, ?_, lx, ly, lz, bx, bY, bz⟩
  congr 1
  apply Array.ext'
  have ha : arr8 (x ++ (y ++ z)) = arr8 x ++ (arr8 y ++ arr8 z) := by simp [arr8]
  rw [List.toList_toArray, ha, ← e0, ← e1, ← e2]
  generalize cs.toList = l at hl96
  have q1 : (l.drop (0 * 32)).take 32 = l.take 32 := by simp
  have q2 : (l.drop (1 * 32)).take 32 ++ (l.drop (2 * 32)).take 32 = l.drop 32 := by
    have h64 : (l.drop (2 * 32)).take 32 = (l.drop 32).drop 32 := by
      rw [List.drop_drop]
      exact List.take_of_length_le (by rw [List.length_drop]; omega)
    rw [h64]
    exact List.take_append_drop 32 (l.drop 32)
  rw [q1, q2, List.take_append_drop]
set_option maxRecDepth 100000 in
theorem arr2_in {H : Type} {enc : TypeId × Value → H} {W : World} {v : Value} {dd : DataW H} {p : List MemPlace} {base : Nat} (o : Value.okWide Tryd.prog W .any base 24 v) (h : DataW.Trod enc Tryd.prog W 0 (fun _ => true) true 24 v dd p) :
    ∃ a b : Nat, v = .agg #[.int .u8 (a : Nat), .int .u8 (b : Nat)] ∧ a < 256 ∧ b < 256 := by
  obtain ⟨cs, rfl, hsz⟩ := okWide_arrO Tryd.underlying24 o
  obtain ⟨fuel, hf⟩ := h
  obtain ⟨d, e, hd, hb⟩ := bytesN Tryd.underlying24 (by kernel_rfl) hf
  match d, hd with
  | [a, b], _ =>
    refine ⟨a, b, ?_, hb a (by simp), hb b (by simp)⟩
    congr 1
    apply Array.ext'
    have e2 : cs.toList = arr8 [a, b] := by simpa [Value.cells] using e
    rw [e2]; rfl
end Go.Proofs.YtdmnanocmpkhjaaDoor
