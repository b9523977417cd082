/-
  slices.SortFunc of paths by path.Compare, laid at this seat's program.
-/
import Derived.Test.YtbmkfacmbjnkaaaDoorPaQ
import Derived.Test.YtbmkfacmbjnkaaaDoorStO
import Derived.Shelf.SlSortCmp.NoneTotal
namespace Go.Proofs.YtbmkfacmbjnkaaaDoor
open Go.RowKit Go.Shelf Go.Sort
set_option linter.unusedSimpArgs false
set_option linter.unusedVariables false
set_option maxRecDepth 100000

def laysSortF_ren : Go.Shelf.Ren := ⟨fun | 6 => 90 | 14 => 101 | 15 => 102 | 20 => 109 | 21 => 110 | 22 => 111 | 23 => 112 | 24 => 113 | 25 => 114 | 26 => 115 | 27 => 116 | 28 => 117 | 29 => 118 | 46 => 123 | 47 => 124 | 48 => 125 | 49 => 126 | 50 => 127 | 57 => 133 | n => n, fun | 0 => 0 | 3 => 3 | 4 => 4 | 5 => 5 | 9 => 9 | 22 => 24 | 24 => 9 | 25 => 41 | 39 => 116 | 45 => 122 | 46 => 123 | 50 => 127 | 53 => 108 | 55 => 65 | 66 => 133 | 70 => 137 | 76 => 139 | 77 => 140 | n => n, fun | n => n⟩
theorem laysSortF : Go.Proofs.SlLaysF.n6 Tryd.prog laysSortF_ren := {
  mixed := by kernel_rfl
  f6 := ⟨ "slices.SortFunc[[]string,string]", by kernel_rfl, Tryd.func90.trans (congrArg some (by kernel_rfl))⟩
  f14 := ⟨ "slices.pdqsortCmpFunc[string]", by kernel_rfl, Tryd.func101.trans (congrArg some (by kernel_rfl))⟩
  f15 := Tryd.func102.trans (congrArg some (by kernel_rfl))
  f20 := ⟨ "slices.insertionSortCmpFunc[string]", by kernel_rfl, Tryd.func109.trans (congrArg some (by kernel_rfl))⟩
  f21 := ⟨ "slices.heapSortCmpFunc[string]", by kernel_rfl, Tryd.func110.trans (congrArg some (by kernel_rfl))⟩
  f22 := ⟨ "slices.breakPatternsCmpFunc[string]", by kernel_rfl, Tryd.func111.trans (congrArg some (by kernel_rfl))⟩
  f23 := ⟨ "slices.choosePivotCmpFunc[string]", by kernel_rfl, Tryd.func112.trans (congrArg some (by kernel_rfl))⟩
  f24 := ⟨ "slices.reverseRangeCmpFunc[string]", by kernel_rfl, Tryd.func113.trans (congrArg some (by kernel_rfl))⟩
  f25 := ⟨ "slices.partialInsertionSortCmpFunc[string]", by kernel_rfl, Tryd.func114.trans (congrArg some (by kernel_rfl))⟩
  f26 := ⟨ "slices.partitionEqualCmpFunc[string]", by kernel_rfl, Tryd.func115.trans (congrArg some (by kernel_rfl))⟩
  f27 := ⟨ "slices.partitionCmpFunc[string]", by kernel_rfl, Tryd.func116.trans (congrArg some (by kernel_rfl))⟩
  f28 := Tryd.func117.trans (congrArg some (by kernel_rfl))
  f29 := Tryd.func118.trans (congrArg some (by kernel_rfl))
  f46 := ⟨ "slices.siftDownCmpFunc[string]", by kernel_rfl, Tryd.func123.trans (congrArg some (by kernel_rfl))⟩
  f47 := Tryd.func124.trans (congrArg some (by kernel_rfl))
  f48 := Tryd.func125.trans (congrArg some (by kernel_rfl))
  f49 := ⟨ "slices.medianAdjacentCmpFunc[string]", by kernel_rfl, Tryd.func126.trans (congrArg some (by kernel_rfl))⟩
  f50 := ⟨ "slices.medianCmpFunc[string]", by kernel_rfl, Tryd.func127.trans (congrArg some (by kernel_rfl))⟩
  f57 := ⟨ "slices.order2CmpFunc[string]", by kernel_rfl, Tryd.func133.trans (congrArg some (by kernel_rfl))⟩
  t0 := Tryd.underlying0
  a0 := Tryd.isAgg0
  z0 := Tryd.sizeOf0
  v0 := Tryd.zeroValue0
  t3 := Tryd.underlying3
  a3 := Tryd.isAgg3
  z3 := Tryd.sizeOf3
  v3 := Tryd.zeroValue3
  t4 := Tryd.underlying4
  a4 := Tryd.isAgg4
  z4 := Tryd.sizeOf4
  v4 := Tryd.zeroValue4
  t5 := Tryd.underlying5
  a5 := Tryd.isAgg5
  z5 := Tryd.sizeOf5
  v5 := Tryd.zeroValue5
  t9 := Tryd.underlying9
  a9 := Tryd.isAgg9
  z9 := Tryd.sizeOf9
  v9 := Tryd.zeroValue9
  t22 := Tryd.underlying24
  a22 := Tryd.isAgg24
  z22 := Tryd.sizeOf24
  v22 := Tryd.zeroValue24
  a24 := Tryd.isAgg9
  z24 := Tryd.sizeOf9
  t25 := Tryd.underlying41
  a25 := Tryd.isAgg41
  z25 := Tryd.sizeOf41
  v25 := Tryd.zeroValue41
  t39 := Tryd.underlying116
  a39 := Tryd.isAgg116
  z39 := Tryd.sizeOf116
  v39 := Tryd.zeroValue116
  t45 := Tryd.underlying122
  a45 := Tryd.isAgg122
  z45 := Tryd.sizeOf122
  v45 := Tryd.zeroValue122
  t46 := Tryd.underlying123
  a46 := Tryd.isAgg123
  z46 := Tryd.sizeOf123
  v46 := Tryd.zeroValue123
  t50 := Tryd.underlying127
  a50 := Tryd.isAgg127
  z50 := Tryd.sizeOf127
  v50 := Tryd.zeroValue127
  t53 := Tryd.underlying108
  a53 := Tryd.isAgg108
  z53 := Tryd.sizeOf108
  v53 := Tryd.zeroValue108
  t55 := Tryd.underlying65
  a55 := Tryd.isAgg65
  z55 := Tryd.sizeOf65
  v55 := Tryd.zeroValue65
  t66 := Tryd.underlying133
  a66 := Tryd.isAgg133
  z66 := Tryd.sizeOf133
  v66 := Tryd.zeroValue133
  t70 := Tryd.underlying137
  a70 := Tryd.isAgg137
  z70 := Tryd.sizeOf137
  v70 := Tryd.zeroValue137
  t76 := Tryd.underlying139
  a76 := Tryd.isAgg139
  z76 := Tryd.sizeOf139
  v76 := Tryd.zeroValue139
  t77 := Tryd.underlying140
  a77 := Tryd.isAgg140
  z77 := Tryd.sizeOf140
  v77 := Tryd.zeroValue140 }

/-- The texts that are paths. -/
abbrev PathT : Type := { s : ByteArray // IsPath s }
instance : Inhabited PathT := ⟨⟨⟨#[47]⟩, by unfold IsPath; rw [namesS_root]; rfl⟩⟩
def encP (x : PathT) : Value := .string x.val
def cfP (x y : PathT) : Int := compareS x.val y.val
theorem ltP (x y : PathT) : ltOf cfP x y = true ↔ compareS x.val y.val < 0 := by unfold ltOf cfP; rw [decide_eq_true_iff]
theorem ltP_no (x y : PathT) : ltOf cfP x y = false ↔ ¬ compareS x.val y.val < 0 := by unfold ltOf cfP; rw [decide_eq_false_iff_not]
theorem totP (x y : PathT) (h1 : ltOf cfP x y = false) (h2 : ltOf cfP y x = false) : x = y := by
  rw [ltP_no] at h1 h2
  have h3 := compareS_swap x.property y.property
  exact Subtype.ext ((compareS_zero x.property y.property).1 (by omega))
theorem swoP : SWO (ltOf cfP) where
  irrefl x := by rw [ltP_no, (compareS_zero x.property x.property).2 rfl]; omega
  trans x y z h1 h2 := by rw [ltP] at *; exact compareS_trans x.property y.property z.property h1 h2
  ntrans x y z h1 h2 := by
    rw [ltP_no] at *
    intro h3
    have a1 := compareS_swap x.property y.property
    have a2 := compareS_swap y.property z.property
    by_cases e : compareS x.val y.val = 0
    · have := (compareS_zero x.property y.property).1 e
      rw [this] at h3; exact h2 h3
    · by_cases e2 : compareS y.val z.val = 0
      · have := (compareS_zero y.property z.property).1 e2
        rw [this] at h1; exact h1 h3
      · have := compareS_trans z.property y.property x.property (by omega) (by omega)
        have a3 := compareS_swap x.property z.property
        omega
theorem path_short (x : PathT) : x.val.size ≤ 1000000 := by
  obtain ⟨l, hl⟩ := isPath_names x.property
  have := path_size hl
  omega
theorem cmpLaysP (blk off size : Nat) (w : World) : CmpLays1 Tryd.prog 33 #[] encP cfP blk off size w := fun m os dk hs x y =>
  (compare_any x.val y.val (path_short x) (path_short y) _).mono fun e w' ⟨h1, _, os', h2⟩ => ⟨h1, 0, os', h2⟩

/-- The sorted list. -/
def sortL (l : List PathT) : List ByteArray := (l.mergeSort fun x y => !(ltOf cfP) y x).map (·.val)
end Go.Proofs.YtbmkfacmbjnkaaaDoor
