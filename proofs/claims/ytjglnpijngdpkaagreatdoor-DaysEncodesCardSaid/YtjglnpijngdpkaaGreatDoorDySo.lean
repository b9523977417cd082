import Derived.Test.YtjglnpijngdpkaaGreatDoorDyW
import Derived.Test.YtjglnpijngdpkaaGreatDoorGSort
import Derived.Lib.SliceRun
/-
  Days: slices.SortFunc of spans by their first days, slices.Clone of spans.
-/
namespace Go.Proofs.YtjglnpijngdpkaaGreatDoor
open Go.RowKit Go.Shelf Go.Sort
set_option linter.unusedSimpArgs false
set_option linter.unusedVariables false
set_option maxRecDepth 100000

def laysSortD_ren : Go.Shelf.Ren := ⟨fun | 6 => 51 | 14 => 70 | 15 => 71 | 20 => 86 | 21 => 87 | 22 => 88 | 23 => 89 | 24 => 90 | 25 => 91 | 26 => 92 | 27 => 93 | 28 => 94 | 29 => 43 | 46 => 109 | 47 => 110 | 48 => 111 | 49 => 112 | 50 => 113 | 57 => 127 | n => n, fun | 0 => 0 | 3 => 3 | 4 => 4 | 5 => 5 | 9 => 9 | 22 => 46 | 24 => 49 | 25 => 95 | 39 => 111 | 45 => 132 | 46 => 133 | 50 => 64 | 53 => 139 | 55 => 45 | 66 => 151 | 70 => 155 | 76 => 173 | 77 => 174 | n => n, fun | n => n⟩
theorem laysSortD : Go.Proofs.SlLaysF0.n6 Tryz.prog laysSortD_ren := {
  mixed := by kernel_rfl
  f6 := ⟨ "slices.SortFunc[[]arbac/days.Span,arbac/days.Span]", by kernel_rfl, Tryz.func51.trans (congrArg some (by kernel_rfl))⟩
  f14 := ⟨ "slices.pdqsortCmpFunc[arbac/days.Span]", by kernel_rfl, Tryz.func70.trans (congrArg some (by kernel_rfl))⟩
  f15 := Tryz.func71.trans (congrArg some (by kernel_rfl))
  f20 := ⟨ "slices.insertionSortCmpFunc[arbac/days.Span]", by kernel_rfl, Tryz.func86.trans (congrArg some (by kernel_rfl))⟩
  f21 := ⟨ "slices.heapSortCmpFunc[arbac/days.Span]", by kernel_rfl, Tryz.func87.trans (congrArg some (by kernel_rfl))⟩
  f22 := ⟨ "slices.breakPatternsCmpFunc[arbac/days.Span]", by kernel_rfl, Tryz.func88.trans (congrArg some (by kernel_rfl))⟩
  f23 := ⟨ "slices.choosePivotCmpFunc[arbac/days.Span]", by kernel_rfl, Tryz.func89.trans (congrArg some (by kernel_rfl))⟩
  f24 := ⟨ "slices.reverseRangeCmpFunc[arbac/days.Span]", by kernel_rfl, Tryz.func90.trans (congrArg some (by kernel_rfl))⟩
  f25 := ⟨ "slices.partialInsertionSortCmpFunc[arbac/days.Span]", by kernel_rfl, Tryz.func91.trans (congrArg some (by kernel_rfl))⟩
  f26 := ⟨ "slices.partitionEqualCmpFunc[arbac/days.Span]", by kernel_rfl, Tryz.func92.trans (congrArg some (by kernel_rfl))⟩
  f27 := ⟨ "slices.partitionCmpFunc[arbac/days.Span]", by kernel_rfl, Tryz.func93.trans (congrArg some (by kernel_rfl))⟩
  f28 := Tryz.func94.trans (congrArg some (by kernel_rfl))
  f29 := Tryz.func43.trans (congrArg some (by kernel_rfl))
  f46 := ⟨ "slices.siftDownCmpFunc[arbac/days.Span]", by kernel_rfl, Tryz.func109.trans (congrArg some (by kernel_rfl))⟩
  f47 := Tryz.func110.trans (congrArg some (by kernel_rfl))
  f48 := Tryz.func111.trans (congrArg some (by kernel_rfl))
  f49 := ⟨ "slices.medianAdjacentCmpFunc[arbac/days.Span]", by kernel_rfl, Tryz.func112.trans (congrArg some (by kernel_rfl))⟩
  f50 := ⟨ "slices.medianCmpFunc[arbac/days.Span]", by kernel_rfl, Tryz.func113.trans (congrArg some (by kernel_rfl))⟩
  f57 := ⟨ "slices.order2CmpFunc[arbac/days.Span]", by kernel_rfl, Tryz.func127.trans (congrArg some (by kernel_rfl))⟩
  t0 := Tryz.underlying0
  a0 := Tryz.isAgg0
  z0 := Tryz.sizeOf0
  v0 := Tryz.zeroValue0
  t3 := Tryz.underlying3
  a3 := Tryz.isAgg3
  z3 := Tryz.sizeOf3
  v3 := Tryz.zeroValue3
  t4 := Tryz.underlying4
  a4 := Tryz.isAgg4
  z4 := Tryz.sizeOf4
  v4 := Tryz.zeroValue4
  t5 := Tryz.underlying5
  a5 := Tryz.isAgg5
  z5 := Tryz.sizeOf5
  v5 := Tryz.zeroValue5
  t9 := Tryz.underlying9
  a9 := Tryz.isAgg9
  z9 := Tryz.sizeOf9
  v9 := Tryz.zeroValue9
  t22 := Tryz.underlying46
  a22 := Tryz.isAgg46
  z22 := Tryz.sizeOf46
  v22 := Tryz.zeroValue46
  t25 := Tryz.underlying95
  a25 := Tryz.isAgg95
  z25 := Tryz.sizeOf95
  v25 := Tryz.zeroValue95
  t39 := Tryz.underlying111
  a39 := Tryz.isAgg111
  z39 := Tryz.sizeOf111
  v39 := Tryz.zeroValue111
  t45 := Tryz.underlying132
  a45 := Tryz.isAgg132
  z45 := Tryz.sizeOf132
  v45 := Tryz.zeroValue132
  t46 := Tryz.underlying133
  a46 := Tryz.isAgg133
  z46 := Tryz.sizeOf133
  v46 := Tryz.zeroValue133
  t50 := Tryz.underlying64
  a50 := Tryz.isAgg64
  z50 := Tryz.sizeOf64
  v50 := Tryz.zeroValue64
  t53 := Tryz.underlying139
  a53 := Tryz.isAgg139
  z53 := Tryz.sizeOf139
  v53 := Tryz.zeroValue139
  t55 := Tryz.underlying45
  a55 := Tryz.isAgg45
  z55 := Tryz.sizeOf45
  v55 := Tryz.zeroValue45
  t66 := Tryz.underlying151
  a66 := Tryz.isAgg151
  z66 := Tryz.sizeOf151
  v66 := Tryz.zeroValue151
  t70 := Tryz.underlying155
  a70 := Tryz.isAgg155
  z70 := Tryz.sizeOf155
  v70 := Tryz.zeroValue155
  t76 := Tryz.underlying173
  a76 := Tryz.isAgg173
  z76 := Tryz.sizeOf173
  v76 := Tryz.zeroValue173
  t77 := Tryz.underlying174
  a77 := Tryz.isAgg174
  z77 := Tryz.sizeOf174
  v77 := Tryz.zeroValue174 }


/-- Spans in memory. -/
def ESp : REnc (Int × Int) := ⟨fun p => [.int .i64 p.1, .int .i64 p.2], 2, (0, 0), fun _ => rfl, fun x v h => by simp at h; rcases h with rfl | rfl <;> rfl, by omega⟩
theorem atESp {w : World} {g o : Nat} {p : Int × Int} (h : AtG ESp w g o p) : w.cell? ⟨g, o, none⟩ = some (.int .i64 p.1) ∧ w.cell? ⟨g, o + 1, none⟩ = some (.int .i64 p.2) := ⟨h 0 _ rfl, h 1 _ rfl⟩
theorem info_span : (Tryz.prog.info? 49).map (fun i => (i.zero, i.size, i.bytes)) = some (some (.agg #[.int .i64 0, .int .i64 0]), ESp.z, 16) := by kernel_rfl
def cmpZ (a b : Int) : Int := if a < b then -1 else if b < a then 1 else 0
def cfSp (p q : Int × Int) : Int := cmpZ p.1 q.1
theorem ltSp (p q : Int × Int) : ltOf cfSp p q = decide (p.1 < q.1) := by
  unfold ltOf cfSp cmpZ
  by_cases h : p.1 < q.1
  · rw [if_pos h, decide_eq_true h]; rfl
  · rw [if_neg h, decide_eq_false h]; split <;> rfl
theorem swoSp : SWO (ltOf cfSp) where
  irrefl x := by rw [ltSp]; simp
  trans x y z h1 h2 := by rw [ltSp] at *; simp at *; omega
  ntrans x y z h1 h2 := by rw [ltSp] at *; simp at *; omega
theorem nanI_any (x : Int) (w : World) : Calls Tryz.prog 72 #[.int .i64 x] w fun e w' => e = .returned (.bool false) ∧ w = w' := by
  go_enter Tryz.func72, Tryz.ntmps72
  go_wp2_with fail
  go_ret
  exact ⟨rfl, rfl⟩
theorem cmpI_any (a b : Int) (w : World) : Calls Tryz.prog 53 #[.int .i64 a, .int .i64 b] w fun e w' => e = .returned (.int .i64 (cmpZ a b)) ∧ w = w' := by
  have HN := Lib.hid (fun x W => nanI_any x W)
  unfold cmpZ
  by_cases h1 : a < b
  · rw [if_pos h1]
    go_enter Tryz.func53, Tryz.ntmps53
    go_wp2_with (first | (go_at_call 72; refine (HN.out _ _).mono ?_; rintro e w2 ⟨rfl, rfl⟩))
    go_ret
    exact ⟨rfl, rfl⟩
  · rw [if_neg h1]
    by_cases h2 : b < a
    · rw [if_pos h2]
      go_enter Tryz.func53, Tryz.ntmps53
      go_wp2_with (first | (go_at_call 72; refine (HN.out _ _).mono ?_; rintro e w2 ⟨rfl, rfl⟩))
      go_ret
      exact ⟨rfl, rfl⟩
    · rw [if_neg h2]
      go_enter Tryz.func53, Tryz.ntmps53
      go_wp2_with (first | (go_at_call 72; refine (HN.out _ _).mono ?_; rintro e w2 ⟨rfl, rfl⟩))
      go_ret
      exact ⟨rfl, rfl⟩
theorem grow_twoD (w : World) (o1 o2 : Obj) : ∃ os, (w.alloc o1).alloc o2 = grow w os := ⟨_, by rw [alloc_eq_grow, alloc_eq_grow, grow_grow]⟩
theorem ofC_any (p q : Int × Int) (w : World) : Calls Tryz.prog 52 #[.agg #[.int .i64 p.1, .int .i64 p.2], .agg #[.int .i64 q.1, .int .i64 q.2]] w fun e w' => e = .returned (.int .i64 (cfSp p q)) ∧ ∃ n os, w' = grow (w.drewN n) os := by
  have HC := Lib.hid (fun W => cmpI_any p.1 q.1 W)
  change Hid (∀ W, Calls _ _ _ W fun e w' => e = .returned (.int .i64 (cfSp p q)) ∧ _) at HC
  have HG := Lib.hid (grow_twoD w (.cells #[.int .i64 p.1, .int .i64 p.2] 49) (.cells #[.int .i64 q.1, .int .i64 q.2] 49))
  generalize cfSp p q = C at *
  obtain ⟨a, b⟩ := p
  obtain ⟨c, d⟩ := q
  simp only at HC HG ⊢
  go_enter Tryz.func52, Tryz.ntmps52
  go_wp2_with fail
  refine (HC.out _).mono ?_
  rintro e w2 ⟨rfl, rfl⟩
  go_wp2_with fail
  go_ret
  obtain ⟨os, ho⟩ := HG.out
  exact ⟨rfl, 0, os, ho⟩
/-- The spans in the order of their first days. -/
theorem sortD_any (w : World) (B g c : Nat) (l : List (Int × Int)) (h : OwnG ESp 49 B w (.slice (some ⟨g, 0, none⟩) l.length c) l) (hl : l.length ≤ 1000000) :
    Calls Tryz.prog 51 #[.slice (some ⟨g, 0, none⟩) l.length c, .func (.func 52) #[] #[]] w fun e w' => e = .returned (.tuple #[]) ∧
      ∃ r : List (Int × Int), r.Perm l ∧ r.Pairwise (fun p q => p.1 ≤ q.1) ∧ RowG ESp w' (.slice (some ⟨g, 0, none⟩) l.length c) r ∧ Kept (fun k => k = g) w w' := by
  refine (sortG_any (E := ESp) laysSortD Tryz.isAgg49 Tryz.sizeOf49 cfSp swoSp 52 (enters_of Tryz.func52 (by kernel_rfl) rfl) _ w B g c l h hl (fun x y W => ofC_any x y W)).mono fun e w' ⟨h1, r, h2, h3, h4, h5⟩ => ⟨h1, r, h2, h3.imp (fun {a b} hh => by rw [ltSp] at hh; simpa using hh), h4, h5⟩
/-- A clone of spans. -/
theorem cloneD_any (v : Value) (l : List (Int × Int)) (w : World) (h : RowG ESp w v l) (hl : l.length ≤ 100000) :
    Calls Tryz.prog 50 #[v] w fun e w' => ∃ v', e = .returned v' ∧ OwnG ESp 49 w.heap.size w' v' l ∧ Kept (fun _ => False) w w' := by
  have q := fun (W : World) (a : Option Addr) (n c n' c' : Nat) => Lib.run_eql_slice_nil (P := Tryz.prog) W 46 49 a n c n' c' Tryz.underlying46
  rcases h with ⟨rfl, rfl⟩ | ⟨g, off, cap, rfl, h1, h2, h3, h4⟩
  · go_enter Tryz.func50, Tryz.ntmps50
    go_wp2_with fail
    go_ret
    exact ⟨_, rfl, OwnG.nil _ _ _, Kept.refl _ _⟩
  · have hka : Kept (fun _ => False) w (w.alloc (.cells #[] 49)) := Kept.alloc _ _ _
    have hrow : RowG ESp w (.slice (some ⟨g, off, none⟩) l.length cap) l := Or.inr ⟨g, off, cap, rfl, h1, h2, h3, h4⟩
    obtain ⟨a, c, w2, hr, ho, hk, _⟩ := appendG_run Tryz.underlying46 info_span rfl (by omega) (OwnG.new0 w 49 w.heap.size (Nat.le_refl _)) (hrow.on hka) (by simp; omega) (by simp)
    rw [List.nil_append] at hr ho
    have HR := Lib.hid hr; have HO := Lib.hid ho
    have HK : Hid (Kept (fun _ => False) w w2) := Lib.hid (hka.trans hk (fun _ _ h => h) (fun i hi e => by
      have : w.heap.size = i := by simpa [Value.ownBlock] using e
      omega))
    clear hr ho hk hka hrow h1 h2 h3 h4
    generalize l.length = L at *
    go_enter Tryz.func50, Tryz.ntmps50
    go_wp2_with (first
      | (at_builtin; refine wpList_appendG_run (by simp [Region.wanted, yielded]) _ _ _ _ rfl _ _ rfl rfl HR.out ?_)
      | fail)
    go_ret
    exact ⟨_, rfl, HO.out, HK.out⟩
end Go.Proofs.YtjglnpijngdpkaaGreatDoor
