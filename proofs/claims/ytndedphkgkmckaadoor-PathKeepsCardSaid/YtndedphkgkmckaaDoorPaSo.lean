/-
  slices.SortFunc of paths by path.Compare, laid at this seat's program.
-/
import Derived.Test.YtndedphkgkmckaaDoorPaQ
import Derived.Test.YtndedphkgkmckaaDoorStO
import Derived.Shelf.SlSortCmp.NoneTotal
namespace Go.Proofs.YtndedphkgkmckaaDoor
open Go.RowKit Go.Shelf Go.Sort
set_option linter.unusedSimpArgs false
set_option linter.unusedVariables false
set_option maxRecDepth 100000

def laysSortF_ren : Go.Shelf.Ren := ⟨fun | 6 => 62 | 14 => 75 | 15 => 76 | 20 => 85 | 21 => 86 | 22 => 87 | 23 => 88 | 24 => 89 | 25 => 90 | 26 => 91 | 27 => 92 | 28 => 93 | 29 => 94 | 46 => 100 | 47 => 101 | 48 => 102 | 49 => 103 | 50 => 104 | 57 => 109 | n => n, fun | 0 => 0 | 3 => 3 | 4 => 4 | 5 => 5 | 9 => 9 | 22 => 25 | 24 => 9 | 25 => 64 | 39 => 93 | 45 => 99 | 46 => 100 | 50 => 104 | 53 => 94 | 55 => 52 | 66 => 110 | 70 => 114 | 76 => 118 | 77 => 119 | n => n, fun | n => n⟩
theorem laysSortF : Go.Proofs.SlLaysF.n6 Tryd.prog laysSortF_ren := {
  mixed := by kernel_rfl
  f6 := ⟨ "slices.SortFunc[[]string,string]", by kernel_rfl, Tryd.func62.trans (congrArg some (by kernel_rfl))⟩
  f14 := ⟨ "slices.pdqsortCmpFunc[string]", by kernel_rfl, Tryd.func75.trans (congrArg some (by kernel_rfl))⟩
  f15 := Tryd.func76.trans (congrArg some (by kernel_rfl))
  f20 := ⟨ "slices.insertionSortCmpFunc[string]", by kernel_rfl, Tryd.func85.trans (congrArg some (by kernel_rfl))⟩
  f21 := ⟨ "slices.heapSortCmpFunc[string]", by kernel_rfl, Tryd.func86.trans (congrArg some (by kernel_rfl))⟩
  f22 := ⟨ "slices.breakPatternsCmpFunc[string]", by kernel_rfl, Tryd.func87.trans (congrArg some (by kernel_rfl))⟩
  f23 := ⟨ "slices.choosePivotCmpFunc[string]", by kernel_rfl, Tryd.func88.trans (congrArg some (by kernel_rfl))⟩
  f24 := ⟨ "slices.reverseRangeCmpFunc[string]", by kernel_rfl, Tryd.func89.trans (congrArg some (by kernel_rfl))⟩
  f25 := ⟨ "slices.partialInsertionSortCmpFunc[string]", by kernel_rfl, Tryd.func90.trans (congrArg some (by kernel_rfl))⟩
  f26 := ⟨ "slices.partitionEqualCmpFunc[string]", by kernel_rfl, Tryd.func91.trans (congrArg some (by kernel_rfl))⟩
  f27 := ⟨ "slices.partitionCmpFunc[string]", by kernel_rfl, Tryd.func92.trans (congrArg some (by kernel_rfl))⟩
  f28 := Tryd.func93.trans (congrArg some (by kernel_rfl))
  f29 := Tryd.func94.trans (congrArg some (by kernel_rfl))
  f46 := ⟨ "slices.siftDownCmpFunc[string]", by kernel_rfl, Tryd.func100.trans (congrArg some (by kernel_rfl))⟩
  f47 := Tryd.func101.trans (congrArg some (by kernel_rfl))
  f48 := Tryd.func102.trans (congrArg some (by kernel_rfl))
  f49 := ⟨ "slices.medianAdjacentCmpFunc[string]", by kernel_rfl, Tryd.func103.trans (congrArg some (by kernel_rfl))⟩
  f50 := ⟨ "slices.medianCmpFunc[string]", by kernel_rfl, Tryd.func104.trans (congrArg some (by kernel_rfl))⟩
  f57 := ⟨ "slices.order2CmpFunc[string]", by kernel_rfl, Tryd.func109.trans (congrArg some (by kernel_rfl))⟩
  t0 := Tryd.underlying0
  a0 := Tryd.isAgg0
  z0 := Tryd.sizeOf0
  v0 := Tryd.zeroValue0
  t3 := Tryd.underlying3
  a3 := Tryd.isAgg3
  z3 := Tryd.sizeOf3
  v3 := Tryd.zeroValue3
  t4 := Tryd.underlying4
  a4 := Tryd.isAgg4
  z4 := Tryd.sizeOf4
  v4 := Tryd.zeroValue4
  t5 := Tryd.underlying5
  a5 := Tryd.isAgg5
  z5 := Tryd.sizeOf5
  v5 := Tryd.zeroValue5
  t9 := Tryd.underlying9
  a9 := Tryd.isAgg9
  z9 := Tryd.sizeOf9
  v9 := Tryd.zeroValue9
  t22 := Tryd.underlying25
  a22 := Tryd.isAgg25
  z22 := Tryd.sizeOf25
  v22 := Tryd.zeroValue25
  a24 := Tryd.isAgg9
  z24 := Tryd.sizeOf9
  t25 := Tryd.underlying64
  a25 := Tryd.isAgg64
  z25 := Tryd.sizeOf64
  v25 := Tryd.zeroValue64
  t39 := Tryd.underlying93
  a39 := Tryd.isAgg93
  z39 := Tryd.sizeOf93
  v39 := Tryd.zeroValue93
  t45 := Tryd.underlying99
  a45 := Tryd.isAgg99
  z45 := Tryd.sizeOf99
  v45 := Tryd.zeroValue99
  t46 := Tryd.underlying100
  a46 := Tryd.isAgg100
  z46 := Tryd.sizeOf100
  v46 := Tryd.zeroValue100
  t50 := Tryd.underlying104
  a50 := Tryd.isAgg104
  z50 := Tryd.sizeOf104
  v50 := Tryd.zeroValue104
  t53 := Tryd.underlying94
  a53 := Tryd.isAgg94
  z53 := Tryd.sizeOf94
  v53 := Tryd.zeroValue94
  t55 := Tryd.underlying52
  a55 := Tryd.isAgg52
  z55 := Tryd.sizeOf52
  v55 := Tryd.zeroValue52
  t66 := Tryd.underlying110
  a66 := Tryd.isAgg110
  z66 := Tryd.sizeOf110
  v66 := Tryd.zeroValue110
  t70 := Tryd.underlying114
  a70 := Tryd.isAgg114
  z70 := Tryd.sizeOf114
  v70 := Tryd.zeroValue114
  t76 := Tryd.underlying118
  a76 := Tryd.isAgg118
  z76 := Tryd.sizeOf118
  v76 := Tryd.zeroValue118
  t77 := Tryd.underlying119
  a77 := Tryd.isAgg119
  z77 := Tryd.sizeOf119
  v77 := Tryd.zeroValue119 }

/-- The texts that are paths. -/
abbrev PathT : Type := { s : ByteArray // IsPath s }
instance : Inhabited PathT := ⟨⟨⟨#[47]⟩, by unfold IsPath; rw [namesS_root]; rfl⟩⟩
def encP (x : PathT) : Value := .string x.val
def cfP (x y : PathT) : Int := compareS x.val y.val
theorem ltP (x y : PathT) : ltOf cfP x y = true ↔ compareS x.val y.val < 0 := by unfold ltOf cfP; rw [decide_eq_true_iff]
theorem ltP_no (x y : PathT) : ltOf cfP x y = false ↔ ¬ compareS x.val y.val < 0 := by unfold ltOf cfP; rw [decide_eq_false_iff_not]
theorem totP (x y : PathT) (h1 : ltOf cfP x y = false) (h2 : ltOf cfP y x = false) : x = y := by
  rw [ltP_no] at h1 h2
  have h3 := compareS_swap x.property y.property
  exact Subtype.ext ((compareS_zero x.property y.property).1 (by omega))
theorem swoP : SWO (ltOf cfP) where
  irrefl x := by rw [ltP_no, (compareS_zero x.property x.property).2 rfl]; omega
  trans x y z h1 h2 := by rw [ltP] at *; exact compareS_trans x.property y.property z.property h1 h2
  ntrans x y z h1 h2 := by
    rw [ltP_no] at *
    intro h3
    have a1 := compareS_swap x.property y.property
    have a2 := compareS_swap y.property z.property
    by_cases e : compareS x.val y.val = 0
    · have := (compareS_zero x.property y.property).1 e
      rw [this] at h3; exact h2 h3
    · by_cases e2 : compareS y.val z.val = 0
      · have := (compareS_zero y.property z.property).1 e2
        rw [this] at h1; exact h1 h3
      · have := compareS_trans z.property y.property x.property (by omega) (by omega)
        have a3 := compareS_swap x.property z.property
        omega
theorem path_short (x : PathT) : x.val.size ≤ 1000000 := by
  obtain ⟨l, hl⟩ := isPath_names x.property
  have := path_size hl
  omega
theorem cmpLaysP (blk off size : Nat) (w : World) : CmpLays1 Tryd.prog 36 #[] encP cfP blk off size w := fun m os dk hs x y =>
  (compare_any x.val y.val (path_short x) (path_short y) _).mono fun e w' ⟨h1, _, os', h2⟩ => ⟨h1, 0, os', h2⟩

/-- The sorted list. -/
def sortL (l : List PathT) : List ByteArray := (l.mergeSort fun x y => !(ltOf cfP) y x).map (·.val)
end Go.Proofs.YtndedphkgkmckaaDoor
