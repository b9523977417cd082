import Derived.Test.YtjglnpijngdpkaaGreatDoorDyFi
import Derived.Test.YtjglnpijngdpkaaGreatDoorArgIn
import Derived.OpenShut
import Derived.ChangeMaps5
import Derived.Lib.SmallJoins
import Derived.Deep.Slices
/-
  Lists of pairs of numbers as they come in.
-/
namespace Go.Proofs.YtjglnpijngdpkaaGreatDoor
open Go.Joins Go.ChangeShapes Go.WideShapes Go.ChangeAt Go.RowKit Go.Deep
set_option linter.unusedSimpArgs false
set_option linter.unusedVariables false
set_option linter.constructorNameAsVariable false

theorem add_plainD (g off n : Nat) : (⟨g, off, none⟩ : Addr).add n = ⟨g, off + n, none⟩ := by unfold Addr.add; split <;> simp_all
theorem u16_natD (a : Int) (h : (Lit.int .u16 a).wf = true) : ∃ n : Nat, a = (n : Int) ∧ n < 65536 := by
  simp [Lit.wf, IntKind.min, IntKind.max, IntKind.signed, IntKind.bits] at h
  exact ⟨a.toNat, by omega, by omega⟩
theorem cellsIA : Tryz.prog.cellsOf 62 = 2 := by kernel_rfl
theorem cellsIE : Tryz.prog.cellsOf 3 = 1 := by kernel_rfl
set_option maxRecDepth 100000 in
theorem pairI_of {H : Type} {enc : TypeId × Value → H} {W : World} {cs : List Value} {y : DataW H × List MemPlace} {fuel : Nat} (h : DataW.trod enc Tryz.prog W 0 (fun _ => true) true fuel 62 cs = some y) :
    ∃ p : Int × Int, cs = ESp.enc p ∧ True := by
  obtain ⟨xs, m, _, _, hl, hxl, hi⟩ := DataW.trod_array Tryz.underlying62 h
  have hl2 : cs.length = 2 := hl.trans (by kernel_rfl)
  obtain ⟨y0, y1, rfl⟩ : ∃ y0 y1, cs = [y0, y1] := by
    match cs, hl2 with
    | [y0, y1], _ => exact ⟨y0, y1, rfl⟩
  have key : ∀ i, i < 2 → ∃ n : Int, [y0, y1][i]? = some (.int .i64 n) ∧ True := fun i hi2 => by
    have h1 := hi i hi2
    rw [cellsIE] at h1
    obtain ⟨x, hx⟩ : ∃ x, xs[i]? = some x := ⟨xs[i], List.getElem?_eq_getElem (by omega)⟩
    rw [hx] at h1
    obtain ⟨z, hc, _, hw⟩ := DataW.trod_int Tryz.underlying3 h1
    have e : [y0, y1][i]? = some (.int .i64 z) := by
      have := congrArg (·[0]?) hc
      simpa [Value.cells, List.getElem?_take, List.getElem?_drop] using this
    exact ⟨z, e, trivial⟩
  obtain ⟨a, ha, oa⟩ := key 0 (by omega)
  obtain ⟨b, hb, ob⟩ := key 1 (by omega)
  refine ⟨(a, b), ?_, trivial⟩
  simp at ha hb
  rw [ha, hb]
  rfl
set_option maxRecDepth 100000 in
theorem pairsI_in {H : Type} {enc : TypeId × Value → H} {W : World} {base : Nat} {v : Value} {d : DataW H} {p : List MemPlace} (o : Value.okWide Tryz.prog W .any base 63 v) (h : DataW.Trod enc Tryz.prog W 0 (fun _ => true) true 63 v d p) :
    ∃ l, RowG ESp W v l ∧ ∀ p ∈ l, True := by
  obtain ⟨a, len, cap, rfl⟩ := okWide_slice Tryz.underlying63 o
  obtain ⟨fuel, h⟩ := h
  simp [Value.cells] at h
  rcases open_slice Tryz.underlying63 h with ⟨hcs, _⟩ | ⟨x, l, c, m, n, D, Pl, hcs, _, hl, hm, hmm, _, hi⟩
  · injection hcs with hcs
    injection hcs with e1 e2 e3
    subst e1 e2 e3
    exact ⟨[], Or.inl ⟨rfl, rfl⟩, by simp⟩
  · injection hcs with hcs
    injection hcs with e1 e2 e3
    subst e1 e2 e3
    simp only [if_true] at hmm
    subst hmm
    obtain ⟨hs, hb⟩ := okWide_at Tryz.underlying63 o
    obtain ⟨g, off, spot⟩ := x
    simp only at hs hb
    subst hs
    have hr : ∀ i, ∃ p : Int × Int, i < len → AtG ESp W g (off + i * 2) p ∧ True := fun i => by
      by_cases hil : i < len
      · obtain ⟨cs', hc, ht⟩ := hi i (by omega)
        rw [cellsIA] at hc
        obtain ⟨_, hcl, hat⟩ := World.cells?_some hc
        obtain ⟨p, rfl, okp⟩ := pairI_of ht
        refine ⟨p, fun _ => ⟨fun j u hu => ?_, okp⟩⟩
        have hj : j < 2 := by
          have := (List.getElem?_eq_some_iff.1 hu).1
          rw [ESp.len] at this; exact this
        have h2 := hat j hj
        rw [add_plainD, add_plainD] at h2
        rw [h2]
        first | exact hu | (rw [← hu]) | simpa using hu
      · exact ⟨(0, 0), fun h => absurd h hil⟩
    obtain ⟨f, hf⟩ := Classical.skolem.1 hr
    refine ⟨(List.range len).map f, Or.inr ⟨g, off, m, by simp, by simpa using hl, by first | omega | (unfold maxLen; omega), hb, fun i hi => ?_⟩, fun p hp => ?_⟩
    · have hil : i < len := by simpa using hi
      have e : ((List.range len).map f).getD i ESp.d = f i := by simp [List.getD, hil]
      rw [e]
      exact (hf i hil).1
    · obtain ⟨i, hi, rfl⟩ := List.mem_map.1 hp
      exact (hf i (by simpa using hi)).2
theorem cellsUA : Tryz.prog.cellsOf 101 = 2 := by kernel_rfl
theorem cellsUE : Tryz.prog.cellsOf 100 = 1 := by kernel_rfl
set_option maxRecDepth 100000 in
theorem pairU_of {H : Type} {enc : TypeId × Value → H} {W : World} {cs : List Value} {y : DataW H × List MemPlace} {fuel : Nat} (h : DataW.trod enc Tryz.prog W 0 (fun _ => true) true fuel 101 cs = some y) :
    ∃ p : Nat × Nat, cs = EU.enc p ∧ p.1 < 65536 ∧ p.2 < 65536 := by
  obtain ⟨xs, m, _, _, hl, hxl, hi⟩ := DataW.trod_array Tryz.underlying101 h
  have hl2 : cs.length = 2 := hl.trans (by kernel_rfl)
  obtain ⟨y0, y1, rfl⟩ : ∃ y0 y1, cs = [y0, y1] := by
    match cs, hl2 with
    | [y0, y1], _ => exact ⟨y0, y1, rfl⟩
  have key : ∀ i, i < 2 → ∃ n : Nat, [y0, y1][i]? = some (.int .u16 (n : Int)) ∧ n < 65536 := fun i hi2 => by
    have h1 := hi i hi2
    rw [cellsUE] at h1
    obtain ⟨x, hx⟩ : ∃ x, xs[i]? = some x := ⟨xs[i], List.getElem?_eq_getElem (by omega)⟩
    rw [hx] at h1
    obtain ⟨z, hc, _, hw⟩ := DataW.trod_int Tryz.underlying100 h1
    have e : [y0, y1][i]? = some (.int .u16 z) := by
      have := congrArg (·[0]?) hc
      simpa [Value.cells, List.getElem?_take, List.getElem?_drop] using this
    obtain ⟨n, rfl, hn⟩ := u16_natD z hw
    exact ⟨n, e, hn⟩
  obtain ⟨a, ha, oa⟩ := key 0 (by omega)
  obtain ⟨b, hb, ob⟩ := key 1 (by omega)
  refine ⟨(a, b), ?_, ⟨oa, ob⟩⟩
  simp at ha hb
  rw [ha, hb]
  rfl
set_option maxRecDepth 100000 in
theorem pairsU_in {H : Type} {enc : TypeId × Value → H} {W : World} {base : Nat} {v : Value} {d : DataW H} {p : List MemPlace} (o : Value.okWide Tryz.prog W .any base 22 v) (h : DataW.Trod enc Tryz.prog W 0 (fun _ => true) true 22 v d p) :
    ∃ l, RowG EU W v l ∧ ∀ p ∈ l, p.1 < 65536 ∧ p.2 < 65536 := by
  obtain ⟨a, len, cap, rfl⟩ := okWide_slice Tryz.underlying22 o
  obtain ⟨fuel, h⟩ := h
  simp [Value.cells] at h
  rcases open_slice Tryz.underlying22 h with ⟨hcs, _⟩ | ⟨x, l, c, m, n, D, Pl, hcs, _, hl, hm, hmm, _, hi⟩
  · injection hcs with hcs
    injection hcs with e1 e2 e3
    subst e1 e2 e3
    exact ⟨[], Or.inl ⟨rfl, rfl⟩, by simp⟩
  · injection hcs with hcs
    injection hcs with e1 e2 e3
    subst e1 e2 e3
    simp only [if_true] at hmm
    subst hmm
    obtain ⟨hs, hb⟩ := okWide_at Tryz.underlying22 o
    obtain ⟨g, off, spot⟩ := x
    simp only at hs hb
    subst hs
    have hr : ∀ i, ∃ p : Nat × Nat, i < len → AtG EU W g (off + i * 2) p ∧ p.1 < 65536 ∧ p.2 < 65536 := fun i => by
      by_cases hil : i < len
      · obtain ⟨cs', hc, ht⟩ := hi i (by omega)
        rw [cellsUA] at hc
        obtain ⟨_, hcl, hat⟩ := World.cells?_some hc
        obtain ⟨p, rfl, okp⟩ := pairU_of ht
        refine ⟨p, fun _ => ⟨fun j u hu => ?_, okp⟩⟩
        have hj : j < 2 := by
          have := (List.getElem?_eq_some_iff.1 hu).1
          rw [EU.len] at this; exact this
        have h2 := hat j hj
        rw [add_plainD, add_plainD] at h2
        rw [h2]
        first | exact hu | (rw [← hu]) | simpa using hu
      · exact ⟨(0, 0), fun h => absurd h hil⟩
    obtain ⟨f, hf⟩ := Classical.skolem.1 hr
    refine ⟨(List.range len).map f, Or.inr ⟨g, off, m, by simp, by simpa using hl, by first | omega | (unfold maxLen; omega), hb, fun i hi => ?_⟩, fun p hp => ?_⟩
    · have hil : i < len := by simpa using hi
      have e : ((List.range len).map f).getD i EU.d = f i := by simp [List.getD, hil]
      rw [e]
      exact (hf i hil).1
    · obtain ⟨i, hi, rfl⟩ := List.mem_map.1 hp
      exact (hf i (by simpa using hi)).2
theorem bytesU : Tryz.prog.bytesOf 101 = 4 := by kernel_rfl
theorem u8_natD (a : Int) (h : (Lit.int .u8 a).wf = true) : ∃ n : Nat, a = (n : Int) ∧ n < 256 := by
  simp [Lit.wf, IntKind.min, IntKind.max, IntKind.signed, IntKind.bits] at h
  exact ⟨a.toNat, by omega, by omega⟩
set_option maxRecDepth 100000 in
/-- How long a list of pairs that came in may be. -/
theorem szU_in {H : Type} {enc : TypeId × Value → H} {W : World} {base : Nat} {v : Value} {d : DataW H} {p : List MemPlace} (o : Value.okWide Tryz.prog W .any base 22 v) (h : DataW.Trod enc Tryz.prog W 0 (fun _ => true) true 22 v d p)
    (hs : ∀ el sp, d = .slice el sp → (el.length + sp.length) * Tryz.prog.bytesOf 101 ≤ reachBytes) : ∀ l, RowG EU W v l → l.length * 4 ≤ 140737488351232 := by
  intro l hr
  obtain ⟨a, len, cap, rfl⟩ := okWide_slice Tryz.underlying22 o
  have hlen : l.length = len := by
    obtain ⟨_, _, e, _⟩ := hr.form
    injection e with _ e2 _; exact e2.symm
  obtain ⟨fuel, h⟩ := h
  simp [Value.cells] at h
  rcases open_slice Tryz.underlying22 h with ⟨hcs, _⟩ | ⟨x, k, c, m, n, D, Pl, hcs, _, hl, hm, hmm, hx, _⟩
  · injection hcs with hcs
    injection hcs with e1 e2 e3
    omega
  · injection hcs with hcs
    injection hcs with e1 e2 e3
    subst e1 e2 e3
    have hd : d = .slice ((List.range len).map D) ((List.range (m - len)).map fun j => D (len + j)) := congrArg Prod.fst hx
    have h9 := hs _ _ hd
    rw [bytesU] at h9
    simp only [List.length_map, List.length_range] at h9
    have h10 : reachBytes = 140737488351232 := rfl
    rw [h10] at h9
    rw [hlen]
    omega
end Go.Proofs.YtjglnpijngdpkaaGreatDoor
