/-
  The library's strings.CutPrefix, SplitN at a stroke, LastIndex, Compare, laid at this seat's program.
-/
import Derived.Test.YtnnakllgfaaejaaGreatDoorPaM
import Derived.Test.YtnnakllgfaaejaaGreatDoorNamV
import Derived.Shelf.Strings.SplitCore
import Derived.Shelf.Strings.Search3
import Derived.Shelf.Strings.Count
import Derived.Shelf.Small.Wraps
import Derived.Shelf.Small.Strs
import Derived.Shelf.Strings.LastIndex
import Derived.Lib.SplitLaws
import Derived.Sort.Grow
namespace Go.Proofs.YtnnakllgfaaejaaGreatDoor
open Go.RowKit Go.Shelf
set_option maxRecDepth 100000

def laysCutP_ren : Go.Shelf.Ren := ⟨fun | 103 => 85 | 206 => 102 | 210 => 96 | n => n, fun | 3 => 3 | 4 => 4 | 9 => 9 | 24 => 79 | n => n, fun | n => n⟩
theorem laysCutP : Go.Proofs.Lays.n103 Tryz.prog laysCutP_ren := {
  mixed := by kernel_rfl
  f103 := Tryz.func85.trans (congrArg some (by kernel_rfl))
  f206 := Tryz.func102.trans (congrArg some (by kernel_rfl))
  f210 := Tryz.func96.trans (congrArg some (by kernel_rfl))
  t3 := Tryz.underlying3
  a3 := Tryz.isAgg3
  z3 := Tryz.sizeOf3
  v3 := Tryz.zeroValue3
  t4 := Tryz.underlying4
  a4 := Tryz.isAgg4
  z4 := Tryz.sizeOf4
  v4 := Tryz.zeroValue4
  t9 := Tryz.underlying9
  a9 := Tryz.isAgg9
  z9 := Tryz.sizeOf9
  v9 := Tryz.zeroValue9
  t24 := Tryz.underlying79
  a24 := Tryz.isAgg79
  z24 := Tryz.sizeOf79
  v24 := Tryz.zeroValue79 }

def laysGenS_ren : Go.Shelf.Ren := ⟨fun | 138 => 104 | 143 => 105 | 195 => 107 | 197 => 108 | 217 => 112 | 218 => 109 | 219 => 110 | 221 => 97 | 224 => 114 | 225 => 113 | 260 => 111 | 266 => 116 | 267 => 115 | 268 => 103 | 314 => 117 | n => n, fun | 0 => 0 | 3 => 3 | 4 => 4 | 5 => 5 | 9 => 9 | 21 => 21 | 31 => 57 | 46 => 69 | 51 => 91 | 105 => 118 | 119 => 121 | 138 => 123 | 139 => 124 | 146 => 115 | n => n, fun | 1 => 0 | 3 => 1 | 4 => 2 | n => n⟩
theorem laysGenS : Go.Proofs.Lays.n221 Tryz.prog laysGenS_ren := {
  mixed := by kernel_rfl
  f138 := Tryz.func104.trans (congrArg some (by kernel_rfl))
  f143 := Tryz.func105.trans (congrArg some (by kernel_rfl))
  f195 := Tryz.func107.trans (congrArg some (by kernel_rfl))
  f197 := Tryz.func108.trans (congrArg some (by kernel_rfl))
  f217 := Tryz.func112.trans (congrArg some (by kernel_rfl))
  f218 := Tryz.func109.trans (congrArg some (by kernel_rfl))
  f219 := Tryz.func110.trans (congrArg some (by kernel_rfl))
  f221 := Tryz.func97.trans (congrArg some (by kernel_rfl))
  f224 := Tryz.func114.trans (congrArg some (by kernel_rfl))
  f225 := Tryz.func113.trans (congrArg some (by kernel_rfl))
  f260 := Tryz.func111.trans (congrArg some (by kernel_rfl))
  f266 := Tryz.func116.trans (congrArg some (by kernel_rfl))
  f267 := Tryz.func115.trans (congrArg some (by kernel_rfl))
  f268 := Tryz.func103.trans (congrArg some (by kernel_rfl))
  f314 := Tryz.func117.trans (congrArg some (by kernel_rfl))
  t0 := Tryz.underlying0
  a0 := Tryz.isAgg0
  z0 := Tryz.sizeOf0
  v0 := Tryz.zeroValue0
  t3 := Tryz.underlying3
  a3 := Tryz.isAgg3
  z3 := Tryz.sizeOf3
  v3 := Tryz.zeroValue3
  t4 := Tryz.underlying4
  a4 := Tryz.isAgg4
  z4 := Tryz.sizeOf4
  v4 := Tryz.zeroValue4
  t5 := Tryz.underlying5
  a5 := Tryz.isAgg5
  z5 := Tryz.sizeOf5
  v5 := Tryz.zeroValue5
  t9 := Tryz.underlying9
  a9 := Tryz.isAgg9
  z9 := Tryz.sizeOf9
  v9 := Tryz.zeroValue9
  t21 := Tryz.underlying21
  a21 := Tryz.isAgg21
  z21 := Tryz.sizeOf21
  v21 := Tryz.zeroValue21
  t31 := Tryz.underlying57
  a31 := Tryz.isAgg57
  z31 := Tryz.sizeOf57
  v31 := Tryz.zeroValue57
  t46 := Tryz.underlying69
  a46 := Tryz.isAgg69
  z46 := Tryz.sizeOf69
  v46 := Tryz.zeroValue69
  t51 := Tryz.underlying91
  a51 := Tryz.isAgg91
  z51 := Tryz.sizeOf91
  v51 := Tryz.zeroValue91
  t105 := Tryz.underlying118
  a105 := Tryz.isAgg118
  z105 := Tryz.sizeOf118
  v105 := Tryz.zeroValue118
  t119 := Tryz.underlying121
  a119 := Tryz.isAgg121
  z119 := Tryz.sizeOf121
  t138 := Tryz.underlying123
  a138 := Tryz.isAgg123
  z138 := Tryz.sizeOf123
  v138 := Tryz.zeroValue123
  t139 := Tryz.underlying124
  a139 := Tryz.isAgg124
  z139 := Tryz.sizeOf124
  v139 := Tryz.zeroValue124
  t146 := Tryz.underlying115
  a146 := Tryz.isAgg115
  z146 := Tryz.sizeOf115
  v146 := Tryz.zeroValue115
  g1 := by kernel_rfl
  g3 := by kernel_rfl
  g4 := by kernel_rfl }

def laysLastI_ren : Go.Shelf.Ren := ⟨fun | 148 => 77 | 222 => 92 | 223 => 93 | 269 => 100 | n => n, fun | 3 => 3 | 4 => 4 | 5 => 5 | 9 => 9 | 46 => 69 | 51 => 91 | 146 => 115 | n => n, fun | n => n⟩
theorem laysLastI : Go.Proofs.Lays.n148 Tryz.prog laysLastI_ren := {
  mixed := by kernel_rfl
  f148 := Tryz.func77.trans (congrArg some (by kernel_rfl))
  f222 := Tryz.func92.trans (congrArg some (by kernel_rfl))
  f223 := Tryz.func93.trans (congrArg some (by kernel_rfl))
  f269 := Tryz.func100.trans (congrArg some (by kernel_rfl))
  t3 := Tryz.underlying3
  a3 := Tryz.isAgg3
  z3 := Tryz.sizeOf3
  v3 := Tryz.zeroValue3
  t4 := Tryz.underlying4
  a4 := Tryz.isAgg4
  z4 := Tryz.sizeOf4
  v4 := Tryz.zeroValue4
  t5 := Tryz.underlying5
  a5 := Tryz.isAgg5
  z5 := Tryz.sizeOf5
  v5 := Tryz.zeroValue5
  t9 := Tryz.underlying9
  a9 := Tryz.isAgg9
  z9 := Tryz.sizeOf9
  v9 := Tryz.zeroValue9
  t46 := Tryz.underlying69
  a46 := Tryz.isAgg69
  z46 := Tryz.sizeOf69
  v46 := Tryz.zeroValue69
  t51 := Tryz.underlying91
  a51 := Tryz.isAgg91
  z51 := Tryz.sizeOf91
  v51 := Tryz.zeroValue91
  t146 := Tryz.underlying115
  a146 := Tryz.isAgg115
  z146 := Tryz.sizeOf115
  v146 := Tryz.zeroValue115 }

def laysCmp_ren : Go.Shelf.Ren := ⟨fun | 106 => 43 | 213 => 65 | 265 => 83 | n => n, fun | 3 => 3 | 9 => 9 | n => n, fun | n => n⟩
theorem laysCmp : Go.Proofs.Lays.n106 Tryz.prog laysCmp_ren := {
  mixed := by kernel_rfl
  f106 := Tryz.func43.trans (congrArg some (by kernel_rfl))
  f213 := Tryz.func65.trans (congrArg some (by kernel_rfl))
  f265 := Tryz.func83.trans (congrArg some (by kernel_rfl))
  t3 := Tryz.underlying3
  a3 := Tryz.isAgg3
  z3 := Tryz.sizeOf3
  v3 := Tryz.zeroValue3
  t9 := Tryz.underlying9
  a9 := Tryz.isAgg9
  z9 := Tryz.sizeOf9
  v9 := Tryz.zeroValue9 }


theorem index_one : ∀ (l : List UInt8) (c : UInt8), Lib.index l [c] = Lib.indexByte l c
  | [], c => rfl
  | b :: l, c => by
    rw [Lib.index, Lib.indexByte, index_one l c]
    by_cases h : b = c
    · subst h; simp [List.isPrefixOf]
    · simp [List.isPrefixOf, h, Ne.symm h]
theorem indexB_stroke (x : ByteArray) : Lib.indexB x ⟨#[47]⟩ = Lib.indexByte x.data.toList 47 := index_one _ _
theorem countB_stroke (x : ByteArray) : Lib.countB x ⟨#[47]⟩ = Lib.countByte x.data.toList 47 := Lib.count_one 47 x.data.toList

/-- strings.CutPrefix at a stroke. -/
theorem sh_CutP (s : ByteArray) (w : World) : Calls Tryz.prog 85 #[.string s, .string ⟨#[47]⟩] w fun e w' => e = .returned (.tuple #[.string (mkS (Lib.trimPrefix s.data.toList [47])), .bool (Lib.hasPrefix s.data.toList [47])]) ∧ w = w' :=
  (Any.strings_CutPrefix laysCutP s ⟨#[47]⟩ w).mono fun _ _ ⟨h1, h2⟩ => ⟨h1, h2.symm⟩
theorem sh_CutP_no (s : ByteArray) (h : ∀ r, s.data.toList ≠ 47 :: r) (w : World) : Calls Tryz.prog 85 #[.string s, .string ⟨#[47]⟩] w fun e w' => e = .returned (.tuple #[.string s, .bool false]) ∧ w = w' := by
  have hp : Lib.hasPrefix s.data.toList [47] = false := by
    unfold Lib.hasPrefix
    cases hl : s.data.toList with
    | nil => rfl
    | cons b r =>
      have hb : b ≠ 47 := fun e => h r (by rw [hl, e])
      simp [List.isPrefixOf, Ne.symm hb]
  have c := sh_CutP s w
  rw [Lib.trimPrefix, hp, if_neg (by simp), mkS_data] at c
  exact c
theorem sh_CutP_yes (s : ByteArray) (r : List UInt8) (h : s.data.toList = 47 :: r) (w : World) : Calls Tryz.prog 85 #[.string s, .string ⟨#[47]⟩] w fun e w' => e = .returned (.tuple #[.string (mkS r), .bool true]) ∧ w = w' := by
  have hp : Lib.hasPrefix s.data.toList [47] = true := by
    unfold Lib.hasPrefix
    rw [h]; simp [List.isPrefixOf]
  have c := sh_CutP s w
  rw [Lib.trimPrefix, hp, if_pos rfl, h] at c
  exact c

/-- strings.LastIndex at a stroke. -/
theorem sh_LastI (s : ByteArray) (hs : s.size < 4611686018427387904) (w : World) : Calls Tryz.prog 77 #[.string s, .string ⟨#[47]⟩] w fun e w' => e = .returned (.int .i64 (Lib.lastIndexByte s 47)) ∧ w = w' :=
  (Any.strings_LastIndex_one laysLastI s ⟨#[47]⟩ rfl hs w).mono fun _ _ ⟨h1, h2⟩ => ⟨h1, h2.symm⟩
/-- strings.Compare. -/
theorem sh_Cmp (a b : ByteArray) (w : World) : Calls Tryz.prog 43 #[.string a, .string b] w fun e w' => e = .returned (.int .i64 (Lib.compareBytes a.data.toList b.data.toList)) ∧ w = w' :=
  (Any.strings_Compare laysCmp a b w).mono fun _ _ ⟨h1, h2⟩ => ⟨h1, h2.symm⟩

theorem gen_hi9 : (Tryz.prog.info? (laysGenS_ren.t 9)).map (fun i => (i.zero, i.size, i.bytes)) = some (some (.string ByteArray.empty), 1, 16) := by kernel_rfl

/-- How many pieces strings.SplitN(s, "/", 9) makes room for. -/
def roomN (s : ByteArray) : Nat := min 9 (s.size + 1)
/-- What strings.SplitN(s, "/", 9) hands back. -/
def partsN (s : ByteArray) : List ByteArray := Lib.splitB ⟨#[47]⟩ 0 (roomN s - 1) s

theorem gen_any (s : ByteArray) (hs : s.size ≤ 1000000) (w : World) : Calls Tryz.prog 97 #[.string s, .string ⟨#[47]⟩, .int .i64 0, .int .i64 9] w fun e w' =>
    e = .returned (.slice (some ⟨w.heap.size, 0, none⟩) (partsN s).length (roomN s)) ∧ w' = w.alloc (.cells (Lib.cellsOf (partsN s) (roomN s)) 9) := by
  have c := Any.strings_genSplit_core laysGenS gen_hi9 s ⟨#[47]⟩ 0 9 (roomN s) w (by omega) (by decide) (Nat.zero_le _)
    (fun x cs hx => by rw [indexB_stroke]; exact Any.strings_Index_one { laysGenS with } x 47 _)
    (by rw [countB_stroke]; exact Any.strings_Count_one { laysGenS with } s 47 w) (by decide) (by decide) (by rw [if_neg (by decide)]; unfold roomN; omega)
  exact c

theorem cellsOf_get (l : List ByteArray) (N i : Nat) (hi : i < l.length) : (Lib.cellsOf l N)[i]? = some (.string (l.getD i ⟨#[]⟩)) := by
  unfold Lib.cellsOf
  rw [List.getElem?_toArray, List.getElem?_append_left (by simpa using hi)]
  simp [List.getD, hi]

theorem splitN_any (s : ByteArray) (hs : s.size ≤ 1000000) (hl : (partsN s).length ≤ roomN s) (w : World) : Calls Tryz.prog 86 #[.string s, .string ⟨#[47]⟩, .int .i64 9] w fun e w' =>
    e = .returned (.slice (some ⟨w.heap.size, 0, none⟩) (partsN s).length (roomN s)) ∧ Strs w' (.slice (some ⟨w.heap.size, 0, none⟩) (partsN s).length (roomN s)) (partsN s) ∧ Kept (fun _ => False) w w' ∧ ∃ os, w' = Go.Sort.grow w os := by
  have hc := gen_any s hs
  have HC := Lib.hid hc
  have hst : ∀ W : World, Strs (W.alloc (.cells (Lib.cellsOf (partsN s) (roomN s)) 9)) (.slice (some ⟨W.heap.size, 0, none⟩) (partsN s).length (roomN s)) (partsN s) := fun W => by
    refine Or.inr ⟨W.heap.size, 0, _, rfl, hl, by unfold roomN maxLen; omega, by simp, fun i hi => ?_⟩
    rw [cell_of_row _ W.heap.size (0 + i) _ 9 (0, 0) (heap_alloc_new W _), Nat.zero_add]
    exact cellsOf_get _ _ _ hi
  have HST := Lib.hid hst
  have HK := Lib.hid (fun W : World => Kept.alloc (fun _ => False) W (.cells (Lib.cellsOf (partsN s) (roomN s)) 9))
  clear hc hst hl
  generalize (partsN s).length = L at HC HST ⊢
  generalize roomN s = N at HC HST HK ⊢
  go_enter Tryz.func86, Tryz.ntmps86
  go_wp2_with fail
  refine (HC.out _).mono ?_
  rintro e w' ⟨rfl, hw⟩
  have HW := Lib.hid hw
  clear hw
  go_wp2_with fail
  go_ret
  rw [HW.out]
  exact ⟨rfl, HST.out _, HK.out _, _, Go.Sort.alloc_eq_grow _ _⟩
end Go.Proofs.YtnnakllgfaaejaaGreatDoor
