import Derived.Test.YtjglnpijngdpkaaDoorDyW
import Derived.Test.YtjglnpijngdpkaaDoorGSort
import Derived.Lib.SliceRun
/-
  Days: slices.SortFunc of spans by their first days, slices.Clone of spans.
-/
namespace Go.Proofs.YtjglnpijngdpkaaDoor
open Go.RowKit Go.Shelf Go.Sort
set_option linter.unusedSimpArgs false
set_option linter.unusedVariables false
set_option maxRecDepth 100000

def laysSortD_ren : Go.Shelf.Ren := ⟨fun | 6 => 47 | 14 => 73 | 15 => 74 | 20 => 81 | 21 => 82 | 22 => 83 | 23 => 84 | 24 => 85 | 25 => 86 | 26 => 87 | 27 => 88 | 28 => 89 | 29 => 90 | 46 => 94 | 47 => 95 | 48 => 96 | 49 => 97 | 50 => 98 | 57 => 100 | n => n, fun | 0 => 0 | 3 => 3 | 4 => 4 | 5 => 5 | 9 => 9 | 22 => 31 | 24 => 62 | 25 => 76 | 39 => 97 | 45 => 102 | 46 => 103 | 50 => 48 | 53 => 109 | 55 => 54 | 66 => 112 | 70 => 116 | 76 => 119 | 77 => 120 | n => n, fun | n => n⟩
theorem laysSortD : Go.Proofs.SlLaysF0.n6 Tryd.prog laysSortD_ren := {
  mixed := by kernel_rfl
  f6 := ⟨ "slices.SortFunc[[]arbac/days.Span,arbac/days.Span]", by kernel_rfl, Tryd.func47.trans (congrArg some (by kernel_rfl))⟩
  f14 := ⟨ "slices.pdqsortCmpFunc[arbac/days.Span]", by kernel_rfl, Tryd.func73.trans (congrArg some (by kernel_rfl))⟩
  f15 := Tryd.func74.trans (congrArg some (by kernel_rfl))
  f20 := ⟨ "slices.insertionSortCmpFunc[arbac/days.Span]", by kernel_rfl, Tryd.func81.trans (congrArg some (by kernel_rfl))⟩
  f21 := ⟨ "slices.heapSortCmpFunc[arbac/days.Span]", by kernel_rfl, Tryd.func82.trans (congrArg some (by kernel_rfl))⟩
  f22 := ⟨ "slices.breakPatternsCmpFunc[arbac/days.Span]", by kernel_rfl, Tryd.func83.trans (congrArg some (by kernel_rfl))⟩
  f23 := ⟨ "slices.choosePivotCmpFunc[arbac/days.Span]", by kernel_rfl, Tryd.func84.trans (congrArg some (by kernel_rfl))⟩
  f24 := ⟨ "slices.reverseRangeCmpFunc[arbac/days.Span]", by kernel_rfl, Tryd.func85.trans (congrArg some (by kernel_rfl))⟩
  f25 := ⟨ "slices.partialInsertionSortCmpFunc[arbac/days.Span]", by kernel_rfl, Tryd.func86.trans (congrArg some (by kernel_rfl))⟩
  f26 := ⟨ "slices.partitionEqualCmpFunc[arbac/days.Span]", by kernel_rfl, Tryd.func87.trans (congrArg some (by kernel_rfl))⟩
  f27 := ⟨ "slices.partitionCmpFunc[arbac/days.Span]", by kernel_rfl, Tryd.func88.trans (congrArg some (by kernel_rfl))⟩
  f28 := Tryd.func89.trans (congrArg some (by kernel_rfl))
  f29 := Tryd.func90.trans (congrArg some (by kernel_rfl))
  f46 := ⟨ "slices.siftDownCmpFunc[arbac/days.Span]", by kernel_rfl, Tryd.func94.trans (congrArg some (by kernel_rfl))⟩
  f47 := Tryd.func95.trans (congrArg some (by kernel_rfl))
  f48 := Tryd.func96.trans (congrArg some (by kernel_rfl))
  f49 := ⟨ "slices.medianAdjacentCmpFunc[arbac/days.Span]", by kernel_rfl, Tryd.func97.trans (congrArg some (by kernel_rfl))⟩
  f50 := ⟨ "slices.medianCmpFunc[arbac/days.Span]", by kernel_rfl, Tryd.func98.trans (congrArg some (by kernel_rfl))⟩
  f57 := ⟨ "slices.order2CmpFunc[arbac/days.Span]", by kernel_rfl, Tryd.func100.trans (congrArg some (by kernel_rfl))⟩
  t0 := Tryd.underlying0
  a0 := Tryd.isAgg0
  z0 := Tryd.sizeOf0
  v0 := Tryd.zeroValue0
  t3 := Tryd.underlying3
  a3 := Tryd.isAgg3
  z3 := Tryd.sizeOf3
  v3 := Tryd.zeroValue3
  t4 := Tryd.underlying4
  a4 := Tryd.isAgg4
  z4 := Tryd.sizeOf4
  v4 := Tryd.zeroValue4
  t5 := Tryd.underlying5
  a5 := Tryd.isAgg5
  z5 := Tryd.sizeOf5
  v5 := Tryd.zeroValue5
  t9 := Tryd.underlying9
  a9 := Tryd.isAgg9
  z9 := Tryd.sizeOf9
  v9 := Tryd.zeroValue9
  t22 := Tryd.underlying31
  a22 := Tryd.isAgg31
  z22 := Tryd.sizeOf31
  v22 := Tryd.zeroValue31
  t25 := Tryd.underlying76
  a25 := Tryd.isAgg76
  z25 := Tryd.sizeOf76
  v25 := Tryd.zeroValue76
  t39 := Tryd.underlying97
  a39 := Tryd.isAgg97
  z39 := Tryd.sizeOf97
  v39 := Tryd.zeroValue97
  t45 := Tryd.underlying102
  a45 := Tryd.isAgg102
  z45 := Tryd.sizeOf102
  v45 := Tryd.zeroValue102
  t46 := Tryd.underlying103
  a46 := Tryd.isAgg103
  z46 := Tryd.sizeOf103
  v46 := Tryd.zeroValue103
  t50 := Tryd.underlying48
  a50 := Tryd.isAgg48
  z50 := Tryd.sizeOf48
  v50 := Tryd.zeroValue48
  t53 := Tryd.underlying109
  a53 := Tryd.isAgg109
  z53 := Tryd.sizeOf109
  v53 := Tryd.zeroValue109
  t55 := Tryd.underlying54
  a55 := Tryd.isAgg54
  z55 := Tryd.sizeOf54
  v55 := Tryd.zeroValue54
  t66 := Tryd.underlying112
  a66 := Tryd.isAgg112
  z66 := Tryd.sizeOf112
  v66 := Tryd.zeroValue112
  t70 := Tryd.underlying116
  a70 := Tryd.isAgg116
  z70 := Tryd.sizeOf116
  v70 := Tryd.zeroValue116
  t76 := Tryd.underlying119
  a76 := Tryd.isAgg119
  z76 := Tryd.sizeOf119
  v76 := Tryd.zeroValue119
  t77 := Tryd.underlying120
  a77 := Tryd.isAgg120
  z77 := Tryd.sizeOf120
  v77 := Tryd.zeroValue120 }


/-- Spans in memory. -/
def ESp : REnc (Int × Int) := ⟨fun p => [.int .i64 p.1, .int .i64 p.2], 2, (0, 0), fun _ => rfl, fun x v h => by simp at h; rcases h with rfl | rfl <;> rfl, by omega⟩
theorem atESp {w : World} {g o : Nat} {p : Int × Int} (h : AtG ESp w g o p) : w.cell? ⟨g, o, none⟩ = some (.int .i64 p.1) ∧ w.cell? ⟨g, o + 1, none⟩ = some (.int .i64 p.2) := ⟨h 0 _ rfl, h 1 _ rfl⟩
theorem info_span : (Tryd.prog.info? 62).map (fun i => (i.zero, i.size, i.bytes)) = some (some (.agg #[.int .i64 0, .int .i64 0]), ESp.z, 16) := by kernel_rfl
def cmpZ (a b : Int) : Int := if a < b then -1 else if b < a then 1 else 0
def cfSp (p q : Int × Int) : Int := cmpZ p.1 q.1
theorem ltSp (p q : Int × Int) : ltOf cfSp p q = decide (p.1 < q.1) := by
  unfold ltOf cfSp cmpZ
  by_cases h : p.1 < q.1
  · rw [if_pos h, decide_eq_true h]; rfl
  · rw [if_neg h, decide_eq_false h]; split <;> rfl
theorem swoSp : SWO (ltOf cfSp) where
  irrefl x := by rw [ltSp]; simp
  trans x y z h1 h2 := by rw [ltSp] at *; simp at *; omega
  ntrans x y z h1 h2 := by rw [ltSp] at *; simp at *; omega
theorem nanI_any (x : Int) (w : World) : Calls Tryd.prog 75 #[.int .i64 x] w fun e w' => e = .returned (.bool false) ∧ w = w' := by
  go_enter Tryd.func75, Tryd.ntmps75
  go_wp2_with fail
  go_ret
  exact ⟨rfl, rfl⟩
theorem cmpI_any (a b : Int) (w : World) : Calls Tryd.prog 49 #[.int .i64 a, .int .i64 b] w fun e w' => e = .returned (.int .i64 (cmpZ a b)) ∧ w = w' := by
  have HN := Lib.hid (fun x W => nanI_any x W)
  unfold cmpZ
  by_cases h1 : a < b
  · rw [if_pos h1]
    go_enter Tryd.func49, Tryd.ntmps49
    go_wp2_with (first | (go_at_call 75; refine (HN.out _ _).mono ?_; rintro e w2 ⟨rfl, rfl⟩))
    go_ret
    exact ⟨rfl, rfl⟩
  · rw [if_neg h1]
    by_cases h2 : b < a
    · rw [if_pos h2]
      go_enter Tryd.func49, Tryd.ntmps49
      go_wp2_with (first | (go_at_call 75; refine (HN.out _ _).mono ?_; rintro e w2 ⟨rfl, rfl⟩))
      go_ret
      exact ⟨rfl, rfl⟩
    · rw [if_neg h2]
      go_enter Tryd.func49, Tryd.ntmps49
      go_wp2_with (first | (go_at_call 75; refine (HN.out _ _).mono ?_; rintro e w2 ⟨rfl, rfl⟩))
      go_ret
      exact ⟨rfl, rfl⟩
theorem grow_twoD (w : World) (o1 o2 : Obj) : ∃ os, (w.alloc o1).alloc o2 = grow w os := ⟨_, by rw [alloc_eq_grow, alloc_eq_grow, grow_grow]⟩
theorem ofC_any (p q : Int × Int) (w : World) : Calls Tryd.prog 48 #[.agg #[.int .i64 p.1, .int .i64 p.2], .agg #[.int .i64 q.1, .int .i64 q.2]] w fun e w' => e = .returned (.int .i64 (cfSp p q)) ∧ ∃ n os, w' = grow (w.drewN n) os := by
  have HC := Lib.hid (fun W => cmpI_any p.1 q.1 W)
  change Hid (∀ W, Calls _ _ _ W fun e w' => e = .returned (.int .i64 (cfSp p q)) ∧ _) at HC
  have HG := Lib.hid (grow_twoD w (.cells #[.int .i64 p.1, .int .i64 p.2] 62) (.cells #[.int .i64 q.1, .int .i64 q.2] 62))
  generalize cfSp p q = C at *
  obtain ⟨a, b⟩ := p
  obtain ⟨c, d⟩ := q
  simp only at HC HG ⊢
  go_enter Tryd.func48, Tryd.ntmps48
  go_wp2_with fail
  refine (HC.out _).mono ?_
  rintro e w2 ⟨rfl, rfl⟩
  go_wp2_with fail
  go_ret
  obtain ⟨os, ho⟩ := HG.out
  exact ⟨rfl, 0, os, ho⟩
/-- The spans in the order of their first days. -/
theorem sortD_any (w : World) (B g c : Nat) (l : List (Int × Int)) (h : OwnG ESp 62 B w (.slice (some ⟨g, 0, none⟩) l.length c) l) (hl : l.length ≤ 1000000) :
    Calls Tryd.prog 47 #[.slice (some ⟨g, 0, none⟩) l.length c, .func (.func 48) #[] #[]] w fun e w' => e = .returned (.tuple #[]) ∧
      ∃ r : List (Int × Int), r.Perm l ∧ r.Pairwise (fun p q => p.1 ≤ q.1) ∧ RowG ESp w' (.slice (some ⟨g, 0, none⟩) l.length c) r ∧ Kept (fun k => k = g) w w' := by
  refine (sortG_any (E := ESp) laysSortD Tryd.isAgg62 Tryd.sizeOf62 cfSp swoSp 48 (enters_of Tryd.func48 (by kernel_rfl) rfl) _ w B g c l h hl (fun x y W => ofC_any x y W)).mono fun e w' ⟨h1, r, h2, h3, h4, h5⟩ => ⟨h1, r, h2, h3.imp (fun {a b} hh => by rw [ltSp] at hh; simpa using hh), h4, h5⟩
/-- A clone of spans. -/
theorem cloneD_any (v : Value) (l : List (Int × Int)) (w : World) (h : RowG ESp w v l) (hl : l.length ≤ 100000) :
    Calls Tryd.prog 46 #[v] w fun e w' => ∃ v', e = .returned v' ∧ OwnG ESp 62 w.heap.size w' v' l ∧ Kept (fun _ => False) w w' := by
  have q := fun (W : World) (a : Option Addr) (n c n' c' : Nat) => Lib.run_eql_slice_nil (P := Tryd.prog) W 31 62 a n c n' c' Tryd.underlying31
  rcases h with ⟨rfl, rfl⟩ | ⟨g, off, cap, rfl, h1, h2, h3, h4⟩
  · go_enter Tryd.func46, Tryd.ntmps46
    go_wp2_with fail
    go_ret
    exact ⟨_, rfl, OwnG.nil _ _ _, Kept.refl _ _⟩
  · have hka : Kept (fun _ => False) w (w.alloc (.cells #[] 62)) := Kept.alloc _ _ _
    have hrow : RowG ESp w (.slice (some ⟨g, off, none⟩) l.length cap) l := Or.inr ⟨g, off, cap, rfl, h1, h2, h3, h4⟩
    obtain ⟨a, c, w2, hr, ho, hk, _⟩ := appendG_run Tryd.underlying31 info_span rfl (by omega) (OwnG.new0 w 62 w.heap.size (Nat.le_refl _)) (hrow.on hka) (by simp; omega) (by simp)
    rw [List.nil_append] at hr ho
    have HR := Lib.hid hr; have HO := Lib.hid ho
    have HK : Hid (Kept (fun _ => False) w w2) := Lib.hid (hka.trans hk (fun _ _ h => h) (fun i hi e => by
      have : w.heap.size = i := by simpa [Value.ownBlock] using e
      omega))
    clear hr ho hk hka hrow h1 h2 h3 h4
    generalize l.length = L at *
    go_enter Tryd.func46, Tryd.ntmps46
    go_wp2_with (first
      | (at_builtin; refine wpList_appendG_run (by simp [Region.wanted, yielded]) _ _ _ _ rfl _ _ rfl rfl HR.out ?_)
      | fail)
    go_ret
    exact ⟨_, rfl, HO.out, HK.out⟩
end Go.Proofs.YtjglnpijngdpkaaDoor
