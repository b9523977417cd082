/-
  slices.SortFunc of a row of paths of the call's own: the row then reads as the ascending list of the same paths.
-/
import Derived.Test.YtndedphkgkmckaaDoorPaSo
namespace Go.Proofs.YtndedphkgkmckaaDoor
open Go.RowKit Go.Shelf Go.Sort
set_option linter.unusedSimpArgs false
set_option linter.unusedVariables false
set_option maxRecDepth 100000

/-- Texts that are paths, with the reason. -/
def withP (l : List ByteArray) (h : ∀ x ∈ l, IsPath x) : List PathT := l.pmap (fun x hx => ⟨x, hx⟩) h
theorem withP_val (l : List ByteArray) (h : ∀ x ∈ l, IsPath x) : (withP l h).map (·.val) = l := by
  unfold withP
  rw [List.map_pmap]
  simp
theorem sortL_mem (l : List PathT) (x : ByteArray) : x ∈ sortL l ↔ x ∈ l.map (·.val) := by
  unfold sortL
  rw [List.mem_map, List.mem_map]
  constructor
  · rintro ⟨y, hy, rfl⟩; exact ⟨y, (List.mergeSort_perm _ _).mem_iff.1 hy, rfl⟩
  · rintro ⟨y, hy, rfl⟩; exact ⟨y, (List.mergeSort_perm _ _).mem_iff.2 hy, rfl⟩
theorem sortL_length (l : List PathT) : (sortL l).length = l.length := by unfold sortL; rw [List.length_map, (List.mergeSort_perm _ _).length_eq]
theorem sortL_sorted (l : List PathT) (hn : (l.map (·.val)).Nodup) : SortedP (sortL l) := by
  refine ⟨?_, fun x hx => ?_⟩
  · have h1 := List.pairwise_mergeSort (le := fun x y : PathT => !(ltOf cfP) y x) (fun a b c h1 h2 => by
      simp only [Bool.not_eq_true'] at h1 h2 ⊢
      exact swoP.ntrans c b a h2 h1) (fun a b => by
      cases e1 : ltOf cfP b a with
      | false => simp
      | true =>
        cases e2 : ltOf cfP a b with
        | false => simp
        | true => have := swoP.trans _ _ _ e1 e2; rw [swoP.irrefl] at this; cases this) l
    have hn2 : l.Nodup := List.Pairwise.of_map (S := fun a b : ByteArray => a ≠ b) (fun x : PathT => x.val) (fun a b h e => h (by rw [e])) hn
    have h2 : (l.mergeSort fun x y => !(ltOf cfP) y x).Nodup := (List.mergeSort_perm _ _).nodup_iff.2 hn2
    refine List.Pairwise.map (R := fun a b : PathT => (!(ltOf cfP) b a) = true ∧ a ≠ b) _ (fun a b h => ?_) (h1.and h2)
    obtain ⟨h3, h4⟩ := h
    simp only [Bool.not_eq_true'] at h3
    cases e : ltOf cfP a b with
    | true => exact (ltP a b).1 e
    | false => exact absurd (totP a b e h3) h4
  · rw [sortL_mem] at hx
    obtain ⟨y, _, rfl⟩ := List.mem_map.1 hx
    exact y.property

theorem sort_none (a : Option Addr) (c : Nat) (fv : Value) (w : World) : Calls Tryd.prog 62 #[.slice a 0 c, fv] w fun e w' => e = .returned (.tuple #[]) ∧ w = w' :=
  (AnyF.slices_SortFunc_none (P := Tryd.prog) (ρ := laysSortF_ren) { laysSortF with } a c fv w).mono fun _ _ ⟨h1, h2⟩ => ⟨h1, h2.symm⟩

theorem sort_some (w : World) (B : Nat) (g c : Nat) (acc : List ByteArray) (h : OwnS w B (.slice (some ⟨g, 0, none⟩) acc.length c) acc) (hp : ∀ x ∈ acc, IsPath x) (hn : acc.Nodup) (hl : acc.length ≤ 1000000) :
    Calls Tryd.prog 62 #[.slice (some ⟨g, 0, none⟩) acc.length c, .func (.func 36) #[] #[]] w fun e w' => e = .returned (.tuple #[]) ∧
      ∃ r, SortedP r ∧ (∀ x, x ∈ r ↔ x ∈ acc) ∧ r.length = acc.length ∧ Strs w' (.slice (some ⟨g, 0, none⟩) acc.length c) r ∧ Kept (fun k => k = g) w w' := by
  have hg : g < w.heap.size := (h.bound g rfl).2
  have hcap : acc.length ≤ c ∧ c ≤ maxLen := by
    rcases h.own.2 with ⟨e, _⟩ | ⟨g', cap, cur, e, _, _, h1, h2, _⟩
    · cases e
    · cases e; exact ⟨h1, h2⟩
  obtain ⟨L, hL⟩ : ∃ L, L = withP acc hp := ⟨_, rfl⟩
  have hval : L.map (·.val) = acc := by rw [hL]; exact withP_val acc hp
  have hlen : L.length = acc.length := by rw [← hval, List.length_map]
  have hH : Holds encP w g 0 L.toArray := fun j hj => by
    have hj2 : j < L.length := by simpa using hj
    refine ⟨?_, h.own.frozenAt (0 + j)⟩
    rw [Nat.zero_add, h.own.cellAt j (by omega)]
    have e1 : L.toArray[j]! = L[j] := by simp [hj2]
    rw [e1]
    unfold sv encP
    rw [← hval]
    simp [hj2]
  have hS := Any.slices_SortFunc_total laysSortF encP (fun _ => rfl) cfP swoP 36 #[] g 0 c L.toArray w (enters_of Tryd.func36 (by kernel_rfl) rfl) (cmpLaysP _ _ _ _) hH hg (by simp; omega) totP
  have e0 : L.toArray.size = acc.length := by simpa using hlen
  rw [e0] at hS
  refine hS.mono ?_
  rintro e w' ⟨rfl, n, os, hw⟩
  refine ⟨rfl, sortL L, sortL_sorted L (by rw [hval]; exact hn), fun x => by rw [sortL_mem, hval], by rw [sortL_length, hlen], ?_, ?_⟩
  · have hds : ((L.mergeSort fun x y => !(ltOf cfP) y x).toArray).size = L.toArray.size := by simp [(List.mergeSort_perm _ _).length_eq]
    have hSW : SW encP w g 0 (L.mergeSort fun x y => !(ltOf cfP) y x).toArray w' := ⟨n, os, hw⟩
    have hHo := hSW.holds hg hH hds
    have hsl : (sortL L).length = acc.length := by rw [sortL_length, hlen]
    refine Or.inr ⟨g, 0, c, by rw [hsl], by rw [hsl]; exact hcap.1, hcap.2, Nat.lt_of_lt_of_le hg hSW.le, fun i hi => ?_⟩
    have hi2 : i < (L.mergeSort fun x y => !(ltOf cfP) y x).length := by rw [sortL_length] at hi; rw [(List.mergeSort_perm _ _).length_eq]; exact hi
    rw [(hHo i (by simpa using hi2)).1]
    unfold sortL
    generalize (L.mergeSort fun x y => !(ltOf cfP) y x) = ml at hi2
    have e1 : ml.toArray[i]! = ml[i] := by simp [hi2]
    rw [e1, List.getD_eq_getElem?_getD, List.getElem?_map, List.getElem?_eq_getElem hi2]
    rfl
  · rw [hw]
    refine ⟨rfl, rfl, rfl, by unfold sortWorld; simp [size_putRow], fun k hk hne => ?_⟩
    unfold sortWorld
    rw [heap_grow_old _ _ (by rw [size_putRow]; exact hk)]
    have : g ≠ k := fun e => hne e.symm
    simp [putRow, mapBlock, Sort.ahead, Array.getElem?_modify, this]
end Go.Proofs.YtndedphkgkmckaaDoor
