/-
  The library's strings.CutPrefix, SplitN at a stroke, LastIndex, Compare, laid at this seat's program.
-/
import Derived.Test.YtcooacjpblhblaaDoorPaM
import Derived.Test.YtcooacjpblhblaaDoorNamV
import Derived.Shelf.Strings.SplitCore
import Derived.Shelf.Strings.Search3
import Derived.Shelf.Strings.Count
import Derived.Shelf.Small.Wraps
import Derived.Shelf.Small.Strs
import Derived.Shelf.Strings.LastIndex
import Derived.Lib.SplitLaws
import Derived.Sort.Grow
namespace Go.Proofs.YtcooacjpblhblaaDoor
open Go.RowKit Go.Shelf
set_option maxRecDepth 100000

def laysCutP_ren : Go.Shelf.Ren := ⟨fun | 103 => 60 | 206 => 91 | 210 => 71 | n => n, fun | 3 => 3 | 4 => 4 | 9 => 9 | 24 => 67 | n => n, fun | n => n⟩
theorem laysCutP : Go.Proofs.Lays.n103 Tryd.prog laysCutP_ren := {
  mixed := by kernel_rfl
  f103 := Tryd.func60.trans (congrArg some (by kernel_rfl))
  f206 := Tryd.func91.trans (congrArg some (by kernel_rfl))
  f210 := Tryd.func71.trans (congrArg some (by kernel_rfl))
  t3 := Tryd.underlying3
  a3 := Tryd.isAgg3
  z3 := Tryd.sizeOf3
  v3 := Tryd.zeroValue3
  t4 := Tryd.underlying4
  a4 := Tryd.isAgg4
  z4 := Tryd.sizeOf4
  v4 := Tryd.zeroValue4
  t9 := Tryd.underlying9
  a9 := Tryd.isAgg9
  z9 := Tryd.sizeOf9
  v9 := Tryd.zeroValue9
  t24 := Tryd.underlying67
  a24 := Tryd.isAgg67
  z24 := Tryd.sizeOf67
  v24 := Tryd.zeroValue67 }

def laysGenS_ren : Go.Shelf.Ren := ⟨fun | 138 => 93 | 143 => 94 | 195 => 105 | 197 => 106 | 217 => 87 | 218 => 107 | 219 => 70 | 221 => 72 | 224 => 89 | 225 => 88 | 260 => 109 | 266 => 103 | 267 => 90 | 268 => 92 | 314 => 104 | n => n, fun | 0 => 0 | 3 => 3 | 4 => 4 | 5 => 5 | 9 => 9 | 21 => 21 | 31 => 51 | 46 => 83 | 51 => 96 | 105 => 109 | 119 => 114 | 138 => 116 | 139 => 117 | 146 => 101 | n => n, fun | 1 => 0 | 3 => 1 | 4 => 2 | n => n⟩
theorem laysGenS : Go.Proofs.Lays.n221 Tryd.prog laysGenS_ren := {
  mixed := by kernel_rfl
  f138 := Tryd.func93.trans (congrArg some (by kernel_rfl))
  f143 := Tryd.func94.trans (congrArg some (by kernel_rfl))
  f195 := Tryd.func105.trans (congrArg some (by kernel_rfl))
  f197 := Tryd.func106.trans (congrArg some (by kernel_rfl))
  f217 := Tryd.func87.trans (congrArg some (by kernel_rfl))
  f218 := Tryd.func107.trans (congrArg some (by kernel_rfl))
  f219 := Tryd.func70.trans (congrArg some (by kernel_rfl))
  f221 := Tryd.func72.trans (congrArg some (by kernel_rfl))
  f224 := Tryd.func89.trans (congrArg some (by kernel_rfl))
  f225 := Tryd.func88.trans (congrArg some (by kernel_rfl))
  f260 := Tryd.func109.trans (congrArg some (by kernel_rfl))
  f266 := Tryd.func103.trans (congrArg some (by kernel_rfl))
  f267 := Tryd.func90.trans (congrArg some (by kernel_rfl))
  f268 := Tryd.func92.trans (congrArg some (by kernel_rfl))
  f314 := Tryd.func104.trans (congrArg some (by kernel_rfl))
  t0 := Tryd.underlying0
  a0 := Tryd.isAgg0
  z0 := Tryd.sizeOf0
  v0 := Tryd.zeroValue0
  t3 := Tryd.underlying3
  a3 := Tryd.isAgg3
  z3 := Tryd.sizeOf3
  v3 := Tryd.zeroValue3
  t4 := Tryd.underlying4
  a4 := Tryd.isAgg4
  z4 := Tryd.sizeOf4
  v4 := Tryd.zeroValue4
  t5 := Tryd.underlying5
  a5 := Tryd.isAgg5
  z5 := Tryd.sizeOf5
  v5 := Tryd.zeroValue5
  t9 := Tryd.underlying9
  a9 := Tryd.isAgg9
  z9 := Tryd.sizeOf9
  v9 := Tryd.zeroValue9
  t21 := Tryd.underlying21
  a21 := Tryd.isAgg21
  z21 := Tryd.sizeOf21
  v21 := Tryd.zeroValue21
  t31 := Tryd.underlying51
  a31 := Tryd.isAgg51
  z31 := Tryd.sizeOf51
  v31 := Tryd.zeroValue51
  t46 := Tryd.underlying83
  a46 := Tryd.isAgg83
  z46 := Tryd.sizeOf83
  v46 := Tryd.zeroValue83
  t51 := Tryd.underlying96
  a51 := Tryd.isAgg96
  z51 := Tryd.sizeOf96
  v51 := Tryd.zeroValue96
  t105 := Tryd.underlying109
  a105 := Tryd.isAgg109
  z105 := Tryd.sizeOf109
  v105 := Tryd.zeroValue109
  t119 := Tryd.underlying114
  a119 := Tryd.isAgg114
  z119 := Tryd.sizeOf114
  t138 := Tryd.underlying116
  a138 := Tryd.isAgg116
  z138 := Tryd.sizeOf116
  v138 := Tryd.zeroValue116
  t139 := Tryd.underlying117
  a139 := Tryd.isAgg117
  z139 := Tryd.sizeOf117
  v139 := Tryd.zeroValue117
  t146 := Tryd.underlying101
  a146 := Tryd.isAgg101
  z146 := Tryd.sizeOf101
  v146 := Tryd.zeroValue101
  g1 := by kernel_rfl
  g3 := by kernel_rfl
  g4 := by kernel_rfl }

def laysLastI_ren : Go.Shelf.Ren := ⟨fun | 148 => 63 | 222 => 74 | 223 => 75 | 269 => 96 | n => n, fun | 3 => 3 | 4 => 4 | 5 => 5 | 9 => 9 | 46 => 83 | 51 => 96 | 146 => 101 | n => n, fun | n => n⟩
theorem laysLastI : Go.Proofs.Lays.n148 Tryd.prog laysLastI_ren := {
  mixed := by kernel_rfl
  f148 := Tryd.func63.trans (congrArg some (by kernel_rfl))
  f222 := Tryd.func74.trans (congrArg some (by kernel_rfl))
  f223 := Tryd.func75.trans (congrArg some (by kernel_rfl))
  f269 := Tryd.func96.trans (congrArg some (by kernel_rfl))
  t3 := Tryd.underlying3
  a3 := Tryd.isAgg3
  z3 := Tryd.sizeOf3
  v3 := Tryd.zeroValue3
  t4 := Tryd.underlying4
  a4 := Tryd.isAgg4
  z4 := Tryd.sizeOf4
  v4 := Tryd.zeroValue4
  t5 := Tryd.underlying5
  a5 := Tryd.isAgg5
  z5 := Tryd.sizeOf5
  v5 := Tryd.zeroValue5
  t9 := Tryd.underlying9
  a9 := Tryd.isAgg9
  z9 := Tryd.sizeOf9
  v9 := Tryd.zeroValue9
  t46 := Tryd.underlying83
  a46 := Tryd.isAgg83
  z46 := Tryd.sizeOf83
  v46 := Tryd.zeroValue83
  t51 := Tryd.underlying96
  a51 := Tryd.isAgg96
  z51 := Tryd.sizeOf96
  v51 := Tryd.zeroValue96
  t146 := Tryd.underlying101
  a146 := Tryd.isAgg101
  z146 := Tryd.sizeOf101
  v146 := Tryd.zeroValue101 }

def laysCmp_ren : Go.Shelf.Ren := ⟨fun | 106 => 35 | 213 => 55 | 265 => 67 | n => n, fun | 3 => 3 | 9 => 9 | n => n, fun | n => n⟩
theorem laysCmp : Go.Proofs.Lays.n106 Tryd.prog laysCmp_ren := {
  mixed := by kernel_rfl
  f106 := Tryd.func35.trans (congrArg some (by kernel_rfl))
  f213 := Tryd.func55.trans (congrArg some (by kernel_rfl))
  f265 := Tryd.func67.trans (congrArg some (by kernel_rfl))
  t3 := Tryd.underlying3
  a3 := Tryd.isAgg3
  z3 := Tryd.sizeOf3
  v3 := Tryd.zeroValue3
  t9 := Tryd.underlying9
  a9 := Tryd.isAgg9
  z9 := Tryd.sizeOf9
  v9 := Tryd.zeroValue9 }


theorem index_one : ∀ (l : List UInt8) (c : UInt8), Lib.index l [c] = Lib.indexByte l c
  | [], c => rfl
  | b :: l, c => by
    rw [Lib.index, Lib.indexByte, index_one l c]
    by_cases h : b = c
    · subst h; simp [List.isPrefixOf]
    · simp [List.isPrefixOf, h, Ne.symm h]
theorem indexB_stroke (x : ByteArray) : Lib.indexB x ⟨#[47]⟩ = Lib.indexByte x.data.toList 47 := index_one _ _
theorem countB_stroke (x : ByteArray) : Lib.countB x ⟨#[47]⟩ = Lib.countByte x.data.toList 47 := Lib.count_one 47 x.data.toList

/-- strings.CutPrefix at a stroke. -/
theorem sh_CutP (s : ByteArray) (w : World) : Calls Tryd.prog 60 #[.string s, .string ⟨#[47]⟩] w fun e w' => e = .returned (.tuple #[.string (mkS (Lib.trimPrefix s.data.toList [47])), .bool (Lib.hasPrefix s.data.toList [47])]) ∧ w = w' :=
  (Any.strings_CutPrefix laysCutP s ⟨#[47]⟩ w).mono fun _ _ ⟨h1, h2⟩ => ⟨h1, h2.symm⟩
theorem sh_CutP_no (s : ByteArray) (h : ∀ r, s.data.toList ≠ 47 :: r) (w : World) : Calls Tryd.prog 60 #[.string s, .string ⟨#[47]⟩] w fun e w' => e = .returned (.tuple #[.string s, .bool false]) ∧ w = w' := by
  have hp : Lib.hasPrefix s.data.toList [47] = false := by
    unfold Lib.hasPrefix
    cases hl : s.data.toList with
    | nil => rfl
    | cons b r =>
      have hb : b ≠ 47 := fun e => h r (by rw [hl, e])
      simp [List.isPrefixOf, Ne.symm hb]
  have c := sh_CutP s w
  rw [Lib.trimPrefix, hp, if_neg (by simp), mkS_data] at c
  exact c
theorem sh_CutP_yes (s : ByteArray) (r : List UInt8) (h : s.data.toList = 47 :: r) (w : World) : Calls Tryd.prog 60 #[.string s, .string ⟨#[47]⟩] w fun e w' => e = .returned (.tuple #[.string (mkS r), .bool true]) ∧ w = w' := by
  have hp : Lib.hasPrefix s.data.toList [47] = true := by
    unfold Lib.hasPrefix
    rw [h]; simp [List.isPrefixOf]
  have c := sh_CutP s w
  rw [Lib.trimPrefix, hp, if_pos rfl, h] at c
  exact c

/-- strings.LastIndex at a stroke. -/
theorem sh_LastI (s : ByteArray) (hs : s.size < 4611686018427387904) (w : World) : Calls Tryd.prog 63 #[.string s, .string ⟨#[47]⟩] w fun e w' => e = .returned (.int .i64 (Lib.lastIndexByte s 47)) ∧ w = w' :=
  (Any.strings_LastIndex_one laysLastI s ⟨#[47]⟩ rfl hs w).mono fun _ _ ⟨h1, h2⟩ => ⟨h1, h2.symm⟩
/-- strings.Compare. -/
theorem sh_Cmp (a b : ByteArray) (w : World) : Calls Tryd.prog 35 #[.string a, .string b] w fun e w' => e = .returned (.int .i64 (Lib.compareBytes a.data.toList b.data.toList)) ∧ w = w' :=
  (Any.strings_Compare laysCmp a b w).mono fun _ _ ⟨h1, h2⟩ => ⟨h1, h2.symm⟩

theorem gen_hi9 : (Tryd.prog.info? (laysGenS_ren.t 9)).map (fun i => (i.zero, i.size, i.bytes)) = some (some (.string ByteArray.empty), 1, 16) := by kernel_rfl

/-- How many pieces strings.SplitN(s, "/", 9) makes room for. -/
def roomN (s : ByteArray) : Nat := min 9 (s.size + 1)
/-- What strings.SplitN(s, "/", 9) hands back. -/
def partsN (s : ByteArray) : List ByteArray := Lib.splitB ⟨#[47]⟩ 0 (roomN s - 1) s

theorem gen_any (s : ByteArray) (hs : s.size ≤ 1000000) (w : World) : Calls Tryd.prog 72 #[.string s, .string ⟨#[47]⟩, .int .i64 0, .int .i64 9] w fun e w' =>
    e = .returned (.slice (some ⟨w.heap.size, 0, none⟩) (partsN s).length (roomN s)) ∧ w' = w.alloc (.cells (Lib.cellsOf (partsN s) (roomN s)) 9) := by
  have c := Any.strings_genSplit_core laysGenS gen_hi9 s ⟨#[47]⟩ 0 9 (roomN s) w (by omega) (by decide) (Nat.zero_le _)
    (fun x cs hx => by rw [indexB_stroke]; exact Any.strings_Index_one { laysGenS with } x 47 _)
    (by rw [countB_stroke]; exact Any.strings_Count_one { laysGenS with } s 47 w) (by decide) (by decide) (by rw [if_neg (by decide)]; unfold roomN; omega)
  exact c

theorem cellsOf_get (l : List ByteArray) (N i : Nat) (hi : i < l.length) : (Lib.cellsOf l N)[i]? = some (.string (l.getD i ⟨#[]⟩)) := by
  unfold Lib.cellsOf
  rw [List.getElem?_toArray, List.getElem?_append_left (by simpa using hi)]
  simp [List.getD, hi]

theorem splitN_any (s : ByteArray) (hs : s.size ≤ 1000000) (hl : (partsN s).length ≤ roomN s) (w : World) : Calls Tryd.prog 61 #[.string s, .string ⟨#[47]⟩, .int .i64 9] w fun e w' =>
    e = .returned (.slice (some ⟨w.heap.size, 0, none⟩) (partsN s).length (roomN s)) ∧ Strs w' (.slice (some ⟨w.heap.size, 0, none⟩) (partsN s).length (roomN s)) (partsN s) ∧ Kept (fun _ => False) w w' ∧ ∃ os, w' = Go.Sort.grow w os := by
  have hc := gen_any s hs
  have HC := Lib.hid hc
  have hst : ∀ W : World, Strs (W.alloc (.cells (Lib.cellsOf (partsN s) (roomN s)) 9)) (.slice (some ⟨W.heap.size, 0, none⟩) (partsN s).length (roomN s)) (partsN s) := fun W => by
    refine Or.inr ⟨W.heap.size, 0, _, rfl, hl, by unfold roomN maxLen; omega, by simp, fun i hi => ?_⟩
    rw [cell_of_row _ W.heap.size (0 + i) _ 9 (0, 0) (heap_alloc_new W _), Nat.zero_add]
    exact cellsOf_get _ _ _ hi
  have HST := Lib.hid hst
  have HK := Lib.hid (fun W : World => Kept.alloc (fun _ => False) W (.cells (Lib.cellsOf (partsN s) (roomN s)) 9))
  clear hc hst hl
  generalize (partsN s).length = L at HC HST ⊢
  generalize roomN s = N at HC HST HK ⊢
  go_enter Tryd.func61, Tryd.ntmps61
  go_wp2_with fail
  refine (HC.out _).mono ?_
  rintro e w' ⟨rfl, hw⟩
  have HW := Lib.hid hw
  clear hw
  go_wp2_with fail
  go_ret
  rw [HW.out]
  exact ⟨rfl, HST.out _, HK.out _, _, Go.Sort.alloc_eq_grow _ _⟩
end Go.Proofs.YtcooacjpblhblaaDoor
