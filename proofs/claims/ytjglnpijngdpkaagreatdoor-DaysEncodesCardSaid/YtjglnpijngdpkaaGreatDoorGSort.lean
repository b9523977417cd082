import Derived.Test.YtjglnpijngdpkaaGreatDoorGRow
import Derived.Shelf.SlSortCmp.WholeK
/-
  slices.SortFunc of a row of one's own, whatever its elements are.
-/
namespace Go.Proofs.YtjglnpijngdpkaaGreatDoor
open Go.RowKit Go.Shelf Go.Sort
set_option linter.unusedSimpArgs false
set_option linter.unusedVariables false

variable {α : Type} [Inhabited α] {E : REnc α}
theorem flatG_get (l : List α) (t : Nat) (h : t < l.length * E.z) : (flatG E l)[t]? = some ((flatK E.enc E.z l.toArray)[t]!) := by
  have hz := E.pos
  have hi : t / E.z < l.length := Nat.div_lt_of_lt_mul (by rw [Nat.mul_comm]; exact h)
  have hr : t % E.z < E.z := Nat.mod_lt _ hz
  rw [get_flatK E.enc E.z l.toArray t (by simpa using h)]
  have e1 : l.toArray[t / E.z]! = l.getD (t / E.z) E.d := by simp [hi, List.getD]
  have he : t = t / E.z * E.z + t % E.z := by rw [Nat.mul_comm]; exact (Nat.div_add_mod t E.z).symm
  have h2 := flatG_at (E := E) l (t / E.z) hi (t % E.z) hr
  rw [← he] at h2
  rw [h2, e1]
  have hl : t % E.z < (E.enc (l.getD (t / E.z) E.d)).length := by rw [E.len]; exact hr
  rw [List.getElem?_eq_getElem hl, getElem!_pos (E.enc (l.getD (t / E.z) E.d)) (t % E.z) hl]
theorem holds_rowG {w : World} {g c : Nat} {d : Array α} (h : HoldsK E.enc E.z w g 0 d) (hg : g < w.heap.size) (hc : d.size ≤ c) (hm : c ≤ maxLen) : RowG E w (.slice (some ⟨g, 0, none⟩) d.size c) d.toList := by
  refine Or.inr ⟨g, 0, c, by simp, by simpa using hc, hm, hg, fun i hi j v hv => ?_⟩
  have hi2 : i < d.size := by simpa using hi
  have hj : j < E.z := by rw [← E.len (d.toList.getD i E.d)]; exact (List.getElem?_eq_some_iff.1 hv).1
  have hlt : i * E.z + j < d.size * E.z := by
    have : i * E.z + E.z ≤ d.size * E.z := by rw [← Nat.succ_mul]; exact Nat.mul_le_mul_right _ hi2
    omega
  have h1 := (h (i * E.z + j) (by rw [size_flatK]; exact hlt)).1
  have h2 := flatG_get (E := E) d.toList (i * E.z + j) (by simpa using hlt)
  rw [flatG_at d.toList i hi j hj, hv] at h2
  simp only [Array.toArray_toList] at h2
  rw [Nat.zero_add] at h1 ⊢
  rw [h1, ← Option.some.inj h2]
  rfl

/-- A sort of a row of one's own: what is there, in the comparison's order. -/
theorem sortG_any {P : Program} {ρ : Ren} (L : SlLaysF0.n6 P ρ) (aE : ∀ w, (isAgg (ρ.t 24)).run P w = .ok true w) (zE : ∀ w, (Go.sizeOf (ρ.t 24)).run P w = .ok E.z w) (cf : α → α → Int) (hO : SWO (ltOf cf)) (gf : Nat)
    (eg : ∀ args w, (callFunc gf args).run P w = .ok (.enter gf args) w) (T : TypeId) (w : World) (B g c : Nat) (l : List α) (h : OwnG E T B w (.slice (some ⟨g, 0, none⟩) l.length c) l) (hl : l.length ≤ 1000000)
    (hcmp : ∀ x y W, Calls P gf #[.agg (E.enc x).toArray, .agg (E.enc y).toArray] W fun e w' => e = .returned (.int .i64 (cf x y)) ∧ ∃ q os', w' = grow (W.drewN q) os') :
    Calls P (ρ.f 6) #[.slice (some ⟨g, 0, none⟩) l.length c, .func (.func gf) #[] #[]] w fun e w' => e = .returned (.tuple #[]) ∧
      ∃ r : List α, r.Perm l ∧ r.Pairwise (fun a b => ltOf cf b a = false) ∧ RowG E w' (.slice (some ⟨g, 0, none⟩) l.length c) r ∧ Kept (fun k => k = g) w w' := by
  have hg : g < w.heap.size := (h.lt g rfl).2
  have hcap : l.length ≤ c ∧ c ≤ maxLen := by
    rcases h.2 with ⟨e, _⟩ | ⟨g', cap, cur, e, _, _, h1, h2, _⟩
    · cases e
    · cases e; exact ⟨h1, h2⟩
  have hH : HoldsK E.enc E.z w g 0 l.toArray := fun j hj => by
    have hj2 : j < l.length * E.z := by rw [size_flatK] at hj; simpa using hj
    refine ⟨?_, World.ownsRow.frozenAt h (0 + j)⟩
    rw [Nat.zero_add]
    exact (World.ownsRow.cellAt h j hj2).trans (flatG_get l j hj2)
  have hS := AnyQ.slices_SortFunc L E.z aE zE E.enc E.len E.one cf hO gf #[] g 0 c l.toArray w eg (fun m os dk hs x y => hcmp x y _) hH hg (by simp; omega)
  have e0 : l.toArray.size = l.length := by simp
  rw [e0] at hS
  refine hS.mono ?_
  rintro e w' ⟨rfl, d', n, os, hp, hs, hw⟩
  have hds : d'.size = l.length := by rw [hp.1]; simp
  have hpm : d'.toList.Perm l := by
    have h3 := hp.2.2
    have a1 : d'.extract 0 l.length = d' := by rw [← hds]; simp
    have a2 : l.toArray.extract 0 l.length = l.toArray := by simp
    rw [a1, a2] at h3
    simpa using h3
  have hSW : SWK E.enc E.z w g 0 d' w' := ⟨n, os, hw⟩
  have hHo := hSW.holds hg hH (by rw [hds]; simp)
  have hrow := holds_rowG hHo (hSW.lt hg) (by rw [hds]; exact hcap.1) hcap.2
  rw [hds] at hrow
  refine ⟨rfl, d'.toList, hpm, ?_, hrow, ?_⟩
  · rw [List.pairwise_iff_getElem]
    intro i j hi hj hij
    have hj2 : j < d'.size := by simpa using hj
    have hi2 : i < d'.size := by omega
    have := hs i j (Nat.zero_le _) hij (by rw [← hds]; exact hj2)
    rw [getElem!_pos d' i hi2, getElem!_pos d' j hj2] at this
    simpa using this
  · rw [hw]
    refine ⟨rfl, rfl, rfl, by unfold sortWorldK putRowK; simp [size_putRow], fun k hk hne => ?_⟩
    unfold sortWorldK putRowK
    rw [heap_grow_old _ _ (by rw [size_putRow]; exact hk)]
    have : g ≠ k := fun e => hne e.symm
    simp [putRow, mapBlock, Sort.ahead, Array.getElem?_modify, this]
end Go.Proofs.YtjglnpijngdpkaaGreatDoor
