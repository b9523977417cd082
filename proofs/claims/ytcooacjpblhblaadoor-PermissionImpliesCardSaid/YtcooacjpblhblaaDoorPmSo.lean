/-
  slices.SortFunc of permissions by permission.Compare, laid at this seat's program.
-/
import Derived.Test.YtcooacjpblhblaaDoorPmA
import Derived.Shelf.SlSortCmp.NoneTotal
namespace Go.Proofs.YtcooacjpblhblaaDoor
open Go.RowKit Go.Shelf Go.Sort
set_option linter.unusedSimpArgs false
set_option linter.unusedVariables false
set_option maxRecDepth 100000

def laysSortQ_ren : Go.Shelf.Ren := ⟨fun | 6 => 47 | 14 => 64 | 15 => 65 | 20 => 76 | 21 => 77 | 22 => 78 | 23 => 79 | 24 => 80 | 25 => 81 | 26 => 82 | 27 => 83 | 28 => 84 | 29 => 85 | 46 => 97 | 47 => 98 | 48 => 99 | 49 => 100 | 50 => 101 | 57 => 108 | n => n, fun | 0 => 0 | 3 => 3 | 4 => 4 | 5 => 5 | 9 => 9 | 22 => 54 | 24 => 27 | 25 => 43 | 39 => 83 | 45 => 88 | 46 => 89 | 50 => 93 | 53 => 96 | 55 => 98 | 66 => 103 | 70 => 107 | 76 => 111 | 77 => 112 | n => n, fun | n => n⟩
theorem laysSortQ : Go.Proofs.SlLaysF0.n6 Tryd.prog laysSortQ_ren := {
  mixed := by kernel_rfl
  f6 := ⟨ "slices.SortFunc[[]arbac/permission.Permission,arbac/permission.Permission]", by kernel_rfl, Tryd.func47.trans (congrArg some (by kernel_rfl))⟩
  f14 := ⟨ "slices.pdqsortCmpFunc[arbac/permission.Permission]", by kernel_rfl, Tryd.func64.trans (congrArg some (by kernel_rfl))⟩
  f15 := Tryd.func65.trans (congrArg some (by kernel_rfl))
  f20 := ⟨ "slices.insertionSortCmpFunc[arbac/permission.Permission]", by kernel_rfl, Tryd.func76.trans (congrArg some (by kernel_rfl))⟩
  f21 := ⟨ "slices.heapSortCmpFunc[arbac/permission.Permission]", by kernel_rfl, Tryd.func77.trans (congrArg some (by kernel_rfl))⟩
  f22 := ⟨ "slices.breakPatternsCmpFunc[arbac/permission.Permission]", by kernel_rfl, Tryd.func78.trans (congrArg some (by kernel_rfl))⟩
  f23 := ⟨ "slices.choosePivotCmpFunc[arbac/permission.Permission]", by kernel_rfl, Tryd.func79.trans (congrArg some (by kernel_rfl))⟩
  f24 := ⟨ "slices.reverseRangeCmpFunc[arbac/permission.Permission]", by kernel_rfl, Tryd.func80.trans (congrArg some (by kernel_rfl))⟩
  f25 := ⟨ "slices.partialInsertionSortCmpFunc[arbac/permission.Permission]", by kernel_rfl, Tryd.func81.trans (congrArg some (by kernel_rfl))⟩
  f26 := ⟨ "slices.partitionEqualCmpFunc[arbac/permission.Permission]", by kernel_rfl, Tryd.func82.trans (congrArg some (by kernel_rfl))⟩
  f27 := ⟨ "slices.partitionCmpFunc[arbac/permission.Permission]", by kernel_rfl, Tryd.func83.trans (congrArg some (by kernel_rfl))⟩
  f28 := Tryd.func84.trans (congrArg some (by kernel_rfl))
  f29 := Tryd.func85.trans (congrArg some (by kernel_rfl))
  f46 := ⟨ "slices.siftDownCmpFunc[arbac/permission.Permission]", by kernel_rfl, Tryd.func97.trans (congrArg some (by kernel_rfl))⟩
  f47 := Tryd.func98.trans (congrArg some (by kernel_rfl))
  f48 := Tryd.func99.trans (congrArg some (by kernel_rfl))
  f49 := ⟨ "slices.medianAdjacentCmpFunc[arbac/permission.Permission]", by kernel_rfl, Tryd.func100.trans (congrArg some (by kernel_rfl))⟩
  f50 := ⟨ "slices.medianCmpFunc[arbac/permission.Permission]", by kernel_rfl, Tryd.func101.trans (congrArg some (by kernel_rfl))⟩
  f57 := ⟨ "slices.order2CmpFunc[arbac/permission.Permission]", by kernel_rfl, Tryd.func108.trans (congrArg some (by kernel_rfl))⟩
  t0 := Tryd.underlying0
  a0 := Tryd.isAgg0
  z0 := Tryd.sizeOf0
  v0 := Tryd.zeroValue0
  t3 := Tryd.underlying3
  a3 := Tryd.isAgg3
  z3 := Tryd.sizeOf3
  v3 := Tryd.zeroValue3
  t4 := Tryd.underlying4
  a4 := Tryd.isAgg4
  z4 := Tryd.sizeOf4
  v4 := Tryd.zeroValue4
  t5 := Tryd.underlying5
  a5 := Tryd.isAgg5
  z5 := Tryd.sizeOf5
  v5 := Tryd.zeroValue5
  t9 := Tryd.underlying9
  a9 := Tryd.isAgg9
  z9 := Tryd.sizeOf9
  v9 := Tryd.zeroValue9
  t22 := Tryd.underlying54
  a22 := Tryd.isAgg54
  z22 := Tryd.sizeOf54
  v22 := Tryd.zeroValue54
  t25 := Tryd.underlying43
  a25 := Tryd.isAgg43
  z25 := Tryd.sizeOf43
  v25 := Tryd.zeroValue43
  t39 := Tryd.underlying83
  a39 := Tryd.isAgg83
  z39 := Tryd.sizeOf83
  v39 := Tryd.zeroValue83
  t45 := Tryd.underlying88
  a45 := Tryd.isAgg88
  z45 := Tryd.sizeOf88
  v45 := Tryd.zeroValue88
  t46 := Tryd.underlying89
  a46 := Tryd.isAgg89
  z46 := Tryd.sizeOf89
  v46 := Tryd.zeroValue89
  t50 := Tryd.underlying93
  a50 := Tryd.isAgg93
  z50 := Tryd.sizeOf93
  v50 := Tryd.zeroValue93
  t53 := Tryd.underlying96
  a53 := Tryd.isAgg96
  z53 := Tryd.sizeOf96
  v53 := Tryd.zeroValue96
  t55 := Tryd.underlying98
  a55 := Tryd.isAgg98
  z55 := Tryd.sizeOf98
  v55 := Tryd.zeroValue98
  t66 := Tryd.underlying103
  a66 := Tryd.isAgg103
  z66 := Tryd.sizeOf103
  v66 := Tryd.zeroValue103
  t70 := Tryd.underlying107
  a70 := Tryd.isAgg107
  z70 := Tryd.sizeOf107
  v70 := Tryd.zeroValue107
  t76 := Tryd.underlying111
  a76 := Tryd.isAgg111
  z76 := Tryd.sizeOf111
  v76 := Tryd.zeroValue111
  t77 := Tryd.underlying112
  a77 := Tryd.isAgg112
  z77 := Tryd.sizeOf112
  v77 := Tryd.zeroValue112 }

/-- The valid permissions. -/
abbrev PerT : Type := { x : Per // okP x = true }
theorem okP_some : okP ⟨mkS [97], mkS [47], false⟩ = true := by decide +kernel
instance : Inhabited PerT := ⟨⟨_, okP_some⟩⟩
def encQ (x : PerT) : List Value := perC x.val
def cfQ (x y : PerT) : Int := cmpP x.val y.val
theorem ltQ (x y : PerT) : ltOf cfQ x y = true ↔ cmpP x.val y.val < 0 := by unfold ltOf cfQ; rw [decide_eq_true_iff]
theorem ltQ_no (x y : PerT) : ltOf cfQ x y = false ↔ ¬ cmpP x.val y.val < 0 := by unfold ltOf cfQ; rw [decide_eq_false_iff_not]
theorem totQ (x y : PerT) (h1 : ltOf cfQ x y = false) (h2 : ltOf cfQ y x = false) : x = y := by
  rw [ltQ_no] at h1 h2
  have h3 := cmpP_swap x.val y.val
  exact Subtype.ext ((cmpP_zero _ _).1 (by omega))
theorem swoQ : SWO (ltOf cfQ) where
  irrefl x := by rw [ltQ_no, (cmpP_zero _ _).2 rfl]; omega
  trans x y z h1 h2 := by rw [ltQ] at *; exact cmpP_trans x.property y.property z.property h1 h2
  ntrans x y z h1 h2 := by
    rw [ltQ_no] at *
    intro h3
    have a1 := cmpP_swap x.val y.val
    have a2 := cmpP_swap y.val z.val
    by_cases e : cmpP x.val y.val = 0
    · have := (cmpP_zero _ _).1 e
      rw [this] at h3; exact h2 h3
    · by_cases e2 : cmpP y.val z.val = 0
      · have := (cmpP_zero _ _).1 e2
        rw [this] at h1; exact h1 h3
      · have := cmpP_trans z.property y.property x.property (by omega) (by omega)
        have a3 := cmpP_swap x.val z.val
        omega
theorem okP_small {x : Per} (h : okP x = true) : x.a.size ≤ 12 ∧ x.p.size ≤ 10000 := by
  obtain ⟨l, hl⟩ := Option.isSome_iff_exists.1 (okP_path h)
  refine ⟨?_, path_size hl⟩
  have h2 := okP_name h
  unfold validS at h2
  simp only [Bool.and_eq_true, decide_eq_true_eq] at h2
  exact h2.1.1.2
theorem cmpLaysQ (blk off size : Nat) (w : World) : CmpLays Tryd.prog 19 #[] encQ 3 cfQ blk off size w := fun m os dk hs x y =>
  (pcmp_any x.val y.val (by have := okP_small x.property; omega) (by have := okP_small y.property; omega) _).mono fun e w' ⟨h1, os', h2⟩ => ⟨h1, 0, os', h2⟩

theorem flat_getQ (L : List PerT) (t : Nat) (h : t < L.length * 3) : (flatQ (L.map (·.val)))[t]? = some ((flatK encQ 3 L.toArray)[t]!) := by
  have hi : t / 3 < L.length := by omega
  obtain ⟨a0, a1, a2⟩ := flatQ_at (L.map (·.val)) (t / 3) (by rw [List.length_map]; exact hi)
  rw [get_flatK encQ 3 L.toArray t (by simpa using h)]
  have e1 : L.toArray[t / 3]! = L[t / 3] := by simp [hi]
  have e2 : (L.map (·.val)).getD (t / 3) per0 = (L[t / 3]).val := by simp [List.getD, hi]
  rw [e2] at a0 a1 a2
  rw [e1]
  have hr : t % 3 = 0 ∨ t % 3 = 1 ∨ t % 3 = 2 := by omega
  rcases hr with e | e | e
  · rw [show t / 3 * 3 = t by omega] at a0
    rw [a0, e]; rfl
  · rw [show t / 3 * 3 + 1 = t by omega] at a1
    rw [a1, e]; rfl
  · rw [show t / 3 * 3 + 2 = t by omega] at a2
    rw [a2, e]; rfl
theorem holds_persQ {w : World} {g c : Nat} {L : List PerT} (h : HoldsK encQ 3 w g 0 L.toArray) (hg : g < w.heap.size) (hc : L.length ≤ c) (hm : c ≤ maxLen) : Pers w (.slice (some ⟨g, 0, none⟩) L.length c) (L.map (·.val)) := by
  have hl : (L.map (·.val)).length = L.length := List.length_map _
  have hcell : ∀ t, t < L.length * 3 → w.cell? ⟨g, t, none⟩ = (flatQ (L.map (·.val)))[t]? := fun t ht => by
    rw [flat_getQ L t ht]
    have := (h t (by rw [size_flatK]; simpa using ht)).1
    rw [Nat.zero_add] at this
    exact this
  refine Or.inr ⟨g, 0, c, by rw [hl], by rw [hl]; exact hc, hm, hg, fun i hi => ?_⟩
  obtain ⟨a0, a1, a2⟩ := flatQ_at (L.map (·.val)) i hi
  rw [hl] at hi
  rw [Nat.zero_add]
  exact ⟨(hcell _ (by omega)).trans a0, (hcell _ (by omega)).trans a1, (hcell _ (by omega)).trans a2⟩

/-- Permissions that are valid, with the reason. -/
def withQ (l : List Per) (h : ∀ x ∈ l, okP x = true) : List PerT := l.pmap (fun x hx => ⟨x, hx⟩) h
theorem withQ_val (l : List Per) (h : ∀ x ∈ l, okP x = true) : (withQ l h).map (·.val) = l := by
  unfold withQ
  rw [List.map_pmap]
  simp
theorem sortQ_sorted (l : List PerT) (hn : (l.map (·.val)).Nodup) : SortQ ((l.mergeSort fun x y => !(ltOf cfQ) y x).map (·.val)) := by
  refine ⟨?_, fun x hx => ?_⟩
  · have h1 := List.pairwise_mergeSort (le := fun x y : PerT => !(ltOf cfQ) y x) (fun a b c h1 h2 => by
      simp only [Bool.not_eq_true'] at h1 h2 ⊢
      exact swoQ.ntrans c b a h2 h1) (fun a b => by
      cases e1 : ltOf cfQ b a with
      | false => simp
      | true =>
        cases e2 : ltOf cfQ a b with
        | false => simp
        | true => have := swoQ.trans _ _ _ e1 e2; rw [swoQ.irrefl] at this; cases this) l
    have hn2 : l.Nodup := List.Pairwise.of_map (S := fun a b : Per => a ≠ b) (fun x : PerT => x.val) (fun a b h e => h (by rw [e])) hn
    have h2 : (l.mergeSort fun x y => !(ltOf cfQ) y x).Nodup := (List.mergeSort_perm _ _).nodup_iff.2 hn2
    refine List.Pairwise.map (R := fun a b : PerT => (!(ltOf cfQ) b a) = true ∧ a ≠ b) _ (fun a b h => ?_) (h1.and h2)
    obtain ⟨h3, h4⟩ := h
    simp only [Bool.not_eq_true'] at h3
    cases e : ltOf cfQ a b with
    | true => exact (ltQ a b).1 e
    | false => exact absurd (totQ a b e h3) h4
  · obtain ⟨y, _, rfl⟩ := List.mem_map.1 hx
    exact y.property

/-- A row whose cells stand in a block of cells owns it. -/
theorem own_of_cells {T : TypeId} {B : Nat} {w : World} {g c n : Nat} {cur : Array Value} {l : List Per} (hb : w.heap[g]? = some (.cells cur T (0, 0))) (hB : B ≤ g) (hn : n = l.length) (h1 : n ≤ c) (h2 : c ≤ maxLen) (h3 : cur.size = c * 3)
    (hc : ∀ t, t < n * 3 → w.cell? ⟨g, t, none⟩ = (flatQ l)[t]?) : OwnQ T B w (.slice (some ⟨g, 0, none⟩) n c) l := by
  subst hn
  refine ⟨flatQ_length l, Or.inr ⟨g, c, cur, rfl, hB, hb, h1, h2, h3, ?_⟩⟩
  apply List.ext_getElem?
  intro t
  by_cases ht : t < l.length * 3
  · rw [List.getElem?_take_of_lt ht, ← hc t ht]
    simp [World.cell?, hb]
  · rw [List.getElem?_take_eq_none (by omega), List.getElem?_eq_none (by rw [flatQ_length]; omega)]
theorem heap_sortedK {w : World} {g n : Nat} {os : Array Obj} {cur : Array Value} {e : TypeId} {fr : Nat × Nat} (d : Array PerT) (hb : w.heap[g]? = some (.cells cur e fr)) :
    ∃ cur', (sortWorldK encQ 3 w g 0 n d os).heap[g]? = some (.cells cur' e fr) ∧ cur'.size = cur.size := by
  have hg : g < w.heap.size := (Array.getElem?_eq_some_iff.1 hb).1
  refine ⟨putCells id 0 (flatK encQ 3 d) cur, ?_, by simp [putCells]⟩
  unfold sortWorldK putRowK
  rw [heap_grow_old _ _ (by simpa using hg)]
  simp [putRow, mapBlock, Sort.ahead, Array.getElem?_modify, hb, onCells]

theorem sortq_none (a : Option Addr) (c : Nat) (fv : Value) (w : World) : Calls Tryd.prog 47 #[.slice a 0 c, fv] w fun e w' => e = .returned (.tuple #[]) ∧ w = w' :=
  (AnyF.slices_SortFunc_none (P := Tryd.prog) (ρ := laysSortQ_ren) laysSortQ a c fv w).mono fun _ _ ⟨h1, h2⟩ => ⟨h1, h2.symm⟩

theorem sortq_some (T : TypeId) (w : World) (B : Nat) (g c : Nat) (acc : List Per) (h : OwnQ T B w (.slice (some ⟨g, 0, none⟩) acc.length c) acc) (hp : ∀ x ∈ acc, okP x = true) (hn : acc.Nodup) (hl : acc.length ≤ 1000000) :
    Calls Tryd.prog 47 #[.slice (some ⟨g, 0, none⟩) acc.length c, .func (.func 19) #[] #[]] w fun e w' => e = .returned (.tuple #[]) ∧
      ∃ r, SortQ r ∧ (∀ x, x ∈ r ↔ x ∈ acc) ∧ r.length = acc.length ∧ Pers w' (.slice (some ⟨g, 0, none⟩) acc.length c) r ∧ OwnQ T B w' (.slice (some ⟨g, 0, none⟩) acc.length c) r ∧ Kept (fun k => k = g) w w' := by
  have hg : g < w.heap.size := (World.ownsRow.lt h g rfl).2
  have hcap : acc.length ≤ c ∧ c ≤ maxLen := by
    rcases h.2 with ⟨e, _⟩ | ⟨g', cap, cur, e, _, _, h1, h2, _⟩
    · cases e
    · cases e; exact ⟨h1, h2⟩
  obtain ⟨L, hL⟩ : ∃ L, L = withQ acc hp := ⟨_, rfl⟩
  have hval : L.map (·.val) = acc := by rw [hL]; exact withQ_val acc hp
  have hlen : L.length = acc.length := by rw [← hval, List.length_map]
  have hH : HoldsK encQ 3 w g 0 L.toArray := fun j hj => by
    have hj2 : j < L.length * 3 := by rw [size_flatK] at hj; simpa using hj
    refine ⟨?_, World.ownsRow.frozenAt h (0 + j)⟩
    rw [Nat.zero_add]
    have e1 := World.ownsRow.cellAt h j (by rw [hlen] at hj2; exact hj2)
    rw [e1, ← hval]
    exact flat_getQ L j hj2
  have hS := AnyQ.slices_SortFunc_total laysSortQ 3 Tryd.isAgg27 Tryd.sizeOf27 encQ (fun _ => rfl) (fun x v hv => by simp [encQ, perC] at hv; rcases hv with rfl | rfl | rfl <;> rfl) cfQ swoQ 19 #[] g 0 c L.toArray w (enters_of Tryd.func19 (by kernel_rfl) rfl) (cmpLaysQ _ _ _ _) hH hg (by simp; omega) totQ
  have e0 : L.toArray.size = acc.length := by simpa using hlen
  rw [e0] at hS
  refine hS.mono ?_
  rintro e w' ⟨rfl, n, os, hw⟩
  have hpm := List.mergeSort_perm L (fun x y => !(ltOf cfQ) y x)
  have hvm : ((L.mergeSort fun x y => !(ltOf cfQ) y x).map (·.val)).Perm acc := by rw [← hval]; exact hpm.map _
  have hsl : ((L.mergeSort fun x y => !(ltOf cfQ) y x).map (·.val)).length = acc.length := hvm.length_eq
  have hml : (L.mergeSort fun x y => !(ltOf cfQ) y x).length = acc.length := by rw [hpm.length_eq, hlen]
  have hds : ((L.mergeSort fun x y => !(ltOf cfQ) y x).toArray).size = L.toArray.size := by simp [hpm.length_eq]
  have hSW : SWK encQ 3 w g 0 (L.mergeSort fun x y => !(ltOf cfQ) y x).toArray w' := ⟨n, os, hw⟩
  have hHo := hSW.holds hg hH hds
  have hkept : Kept (fun k => k = g) w w' := by
    rw [hw]
    refine ⟨rfl, rfl, rfl, by unfold sortWorldK putRowK; simp [size_putRow], fun k hk hne => ?_⟩
    unfold sortWorldK putRowK
    rw [heap_grow_old _ _ (by rw [size_putRow]; exact hk)]
    have : g ≠ k := fun e => hne e.symm
    simp [putRow, mapBlock, Sort.ahead, Array.getElem?_modify, this]
  have hpers := holds_persQ hHo (hSW.lt hg) (by rw [hml]; exact hcap.1) hcap.2
  rw [hml] at hpers
  refine ⟨rfl, _, sortQ_sorted L (by rw [hval]; exact hn), fun x => hvm.mem_iff, hsl, hpers, ?_, hkept⟩
  rcases h.2 with ⟨e, _⟩ | ⟨g', cap, cur, e, hB, hh, _, _, h3, _⟩
  · cases e
  · cases e
    obtain ⟨cur', hc1, hc2⟩ := heap_sortedK (n := n) (os := os) (L.mergeSort fun x y => !(ltOf cfQ) y x).toArray hh
    rw [← hw] at hc1
    refine own_of_cells hc1 hB hsl.symm hcap.1 hcap.2 (by rw [hc2]; exact h3) fun t ht => ?_
    rcases hpers with ⟨e, _⟩ | ⟨g2, off2, cap2, e, _, _, _, h4⟩
    · cases e
    · simp only [Value.slice.injEq, Option.some.injEq, Addr.mk.injEq] at e
      obtain ⟨⟨rfl, rfl, _⟩, _, _⟩ := e
      have hi : t / 3 < ((L.mergeSort fun x y => !(ltOf cfQ) y x).map (·.val)).length := by rw [hsl]; omega
      obtain ⟨a0, a1, a2⟩ := flatQ_at _ (t / 3) hi
      obtain ⟨c0, c1, c2⟩ := h4 (t / 3) hi
      rw [Nat.zero_add] at c0 c1 c2
      have hr : t % 3 = 0 ∨ t % 3 = 1 ∨ t % 3 = 2 := by omega
      rcases hr with e | e | e
      · rw [show t / 3 * 3 = t by omega] at a0 c0
        rw [a0, c0]
      · rw [show t / 3 * 3 + 1 = t by omega] at a1 c1
        rw [a1, c1]
      · rw [show t / 3 * 3 + 2 = t by omega] at a2 c2
        rw [a2, c2]
end Go.Proofs.YtcooacjpblhblaaDoor
