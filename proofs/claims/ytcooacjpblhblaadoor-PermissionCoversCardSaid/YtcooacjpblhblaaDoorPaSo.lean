/-
  slices.SortFunc of paths by path.Compare, laid at this seat's program.
-/
import Derived.Test.YtcooacjpblhblaaDoorPaQ
import Derived.Test.YtcooacjpblhblaaDoorStO
import Derived.Shelf.SlSortCmp.NoneTotal
namespace Go.Proofs.YtcooacjpblhblaaDoor
open Go.RowKit Go.Shelf Go.Sort
set_option linter.unusedSimpArgs false
set_option linter.unusedVariables false
set_option maxRecDepth 100000

/-- The texts that are paths. -/
abbrev PathT : Type := { s : ByteArray // IsPath s }
instance : Inhabited PathT := ⟨⟨⟨#[47]⟩, by unfold IsPath; rw [namesS_root]; rfl⟩⟩
def encP (x : PathT) : Value := .string x.val
def cfP (x y : PathT) : Int := compareS x.val y.val
theorem ltP (x y : PathT) : ltOf cfP x y = true ↔ compareS x.val y.val < 0 := by unfold ltOf cfP; rw [decide_eq_true_iff]
theorem ltP_no (x y : PathT) : ltOf cfP x y = false ↔ ¬ compareS x.val y.val < 0 := by unfold ltOf cfP; rw [decide_eq_false_iff_not]
theorem totP (x y : PathT) (h1 : ltOf cfP x y = false) (h2 : ltOf cfP y x = false) : x = y := by
  rw [ltP_no] at h1 h2
  have h3 := compareS_swap x.property y.property
  exact Subtype.ext ((compareS_zero x.property y.property).1 (by omega))
theorem swoP : SWO (ltOf cfP) where
  irrefl x := by rw [ltP_no, (compareS_zero x.property x.property).2 rfl]; omega
  trans x y z h1 h2 := by rw [ltP] at *; exact compareS_trans x.property y.property z.property h1 h2
  ntrans x y z h1 h2 := by
    rw [ltP_no] at *
    intro h3
    have a1 := compareS_swap x.property y.property
    have a2 := compareS_swap y.property z.property
    by_cases e : compareS x.val y.val = 0
    · have := (compareS_zero x.property y.property).1 e
      rw [this] at h3; exact h2 h3
    · by_cases e2 : compareS y.val z.val = 0
      · have := (compareS_zero y.property z.property).1 e2
        rw [this] at h1; exact h1 h3
      · have := compareS_trans z.property y.property x.property (by omega) (by omega)
        have a3 := compareS_swap x.property z.property
        omega
theorem path_short (x : PathT) : x.val.size ≤ 1000000 := by
  obtain ⟨l, hl⟩ := isPath_names x.property
  have := path_size hl
  omega
theorem cmpLaysP (blk off size : Nat) (w : World) : CmpLays1 Tryd.prog 56 #[] encP cfP blk off size w := fun m os dk hs x y =>
  (compare_any x.val y.val (path_short x) (path_short y) _).mono fun e w' ⟨h1, _, os', h2⟩ => ⟨h1, 0, os', h2⟩

/-- The sorted list. -/
def sortL (l : List PathT) : List ByteArray := (l.mergeSort fun x y => !(ltOf cfP) y x).map (·.val)
end Go.Proofs.YtcooacjpblhblaaDoor
