/-
  For TokenSets (seat .ZD has no Split and no Cut): strings.Trim laid, and the plain words of TkSp and TkCo that TkSx wants. Never beside TkSp or TkCo.
-/
import Derived.Test.YtoekdcobnmkpaaaGreatDoorTkK
import Derived.Test.YtoekdcobnmkpaaaGreatDoorNamV
import Derived.Shelf.Strings.SlTrimAscii
import Derived.Lib.SplitLaws
namespace Go.Proofs.YtoekdcobnmkpaaaGreatDoor
open Go.RowKit Go.Shelf
set_option linter.unusedSimpArgs false
set_option linter.unusedVariables false
set_option maxRecDepth 100000

def laysTrimT_ren : Go.Shelf.Ren := ⟨fun | 119 => 78 | 120 => 67 | 137 => 57 | 151 => 46 | 152 => 66 | 160 => 7 | 197 => 45 | 217 => 75 | 224 => 79 | 225 => 80 | 227 => 26 | 228 => 44 | 231 => 24 | 232 => 25 | 233 => 27 | 234 => 28 | 235 => 29 | 236 => 30 | 260 => 65 | 266 => 88 | 271 => 47 | n => n, fun | 0 => 0 | 3 => 3 | 4 => 4 | 5 => 5 | 9 => 9 | 21 => 21 | 46 => 105 | 105 => 81 | 116 => 59 | 117 => 60 | 119 => 104 | 124 => 63 | 138 => 107 | 139 => 108 | n => n, fun | 3 => 1 | 4 => 2 | n => n⟩
theorem laysTrimT : Go.Proofs.Lays.n160 Tryz.prog laysTrimT_ren := {
  mixed := by kernel_rfl
  f119 := Tryz.func78.trans (congrArg some (by kernel_rfl))
  f120 := Tryz.func67.trans (congrArg some (by kernel_rfl))
  f137 := Tryz.func57.trans (congrArg some (by kernel_rfl))
  f151 := Tryz.func46.trans (congrArg some (by kernel_rfl))
  f152 := Tryz.func66.trans (congrArg some (by kernel_rfl))
  f160 := Tryz.func7.trans (congrArg some (by kernel_rfl))
  f197 := Tryz.func45.trans (congrArg some (by kernel_rfl))
  f217 := Tryz.func75.trans (congrArg some (by kernel_rfl))
  f224 := Tryz.func79.trans (congrArg some (by kernel_rfl))
  f225 := Tryz.func80.trans (congrArg some (by kernel_rfl))
  f227 := Tryz.func26.trans (congrArg some (by kernel_rfl))
  f228 := Tryz.func44.trans (congrArg some (by kernel_rfl))
  f231 := Tryz.func24.trans (congrArg some (by kernel_rfl))
  f232 := Tryz.func25.trans (congrArg some (by kernel_rfl))
  f233 := Tryz.func27.trans (congrArg some (by kernel_rfl))
  f234 := Tryz.func28.trans (congrArg some (by kernel_rfl))
  f235 := Tryz.func29.trans (congrArg some (by kernel_rfl))
  f236 := Tryz.func30.trans (congrArg some (by kernel_rfl))
  f260 := Tryz.func65.trans (congrArg some (by kernel_rfl))
  f266 := Tryz.func88.trans (congrArg some (by kernel_rfl))
  f271 := Tryz.func47.trans (congrArg some (by kernel_rfl))
  t0 := Tryz.underlying0
  a0 := Tryz.isAgg0
  z0 := Tryz.sizeOf0
  v0 := Tryz.zeroValue0
  t3 := Tryz.underlying3
  a3 := Tryz.isAgg3
  z3 := Tryz.sizeOf3
  v3 := Tryz.zeroValue3
  t4 := Tryz.underlying4
  a4 := Tryz.isAgg4
  z4 := Tryz.sizeOf4
  v4 := Tryz.zeroValue4
  t5 := Tryz.underlying5
  a5 := Tryz.isAgg5
  z5 := Tryz.sizeOf5
  v5 := Tryz.zeroValue5
  t9 := Tryz.underlying9
  a9 := Tryz.isAgg9
  z9 := Tryz.sizeOf9
  v9 := Tryz.zeroValue9
  t21 := Tryz.underlying21
  a21 := Tryz.isAgg21
  z21 := Tryz.sizeOf21
  v21 := Tryz.zeroValue21
  t46 := Tryz.underlying105
  a46 := Tryz.isAgg105
  z46 := Tryz.sizeOf105
  v46 := Tryz.zeroValue105
  t105 := Tryz.underlying81
  a105 := Tryz.isAgg81
  z105 := Tryz.sizeOf81
  v105 := Tryz.zeroValue81
  t116 := Tryz.underlying59
  a116 := Tryz.isAgg59
  z116 := Tryz.sizeOf59
  t117 := Tryz.underlying60
  a117 := Tryz.isAgg60
  z117 := Tryz.sizeOf60
  v117 := Tryz.zeroValue60
  t119 := Tryz.underlying104
  a119 := Tryz.isAgg104
  z119 := Tryz.sizeOf104
  t124 := Tryz.underlying63
  a124 := Tryz.isAgg63
  z124 := Tryz.sizeOf63
  v124 := Tryz.zeroValue63
  t138 := Tryz.underlying107
  a138 := Tryz.isAgg107
  z138 := Tryz.sizeOf107
  v138 := Tryz.zeroValue107
  t139 := Tryz.underlying108
  a139 := Tryz.isAgg108
  z139 := Tryz.sizeOf108
  v139 := Tryz.zeroValue108
  g3 := by kernel_rfl
  g4 := by kernel_rfl }

theorem index_oneT : ∀ (l : List UInt8) (c : UInt8), Lib.index l [c] = Lib.indexByte l c
  | [], c => rfl
  | b :: l, c => by
    rw [Lib.index, Lib.indexByte, index_oneT l c]
    by_cases h : b = c
    · subst h; simp [List.isPrefixOf]
    · simp [List.isPrefixOf, h, Ne.symm h]
theorem indexB_oneT (x : ByteArray) (c : UInt8) : Lib.indexB x ⟨#[c]⟩ = Lib.indexByte x.data.toList c := index_oneT _ _
theorem countB_oneT (x : ByteArray) (c : UInt8) : Lib.countB x ⟨#[c]⟩ = Lib.countByte x.data.toList c := Lib.count_one c x.data.toList
theorem trim_hi : (Tryz.prog.info? (laysTrimT_ren.t 116)).map (fun i => (i.zero, i.size)) = some (some (.agg (Array.replicate 256 (.bool false))), 256) := by kernel_rfl
theorem idx_dec : ∀ (l : List UInt8) (c : UInt8), c ∈ l → ∃ i : Nat, Lib.indexByte l c = i ∧ i < l.length ∧ l = l.take i ++ c :: l.drop (i + 1) ∧ c ∉ l.take i
  | [], c, h => by simp at h
  | b :: l, c, h => by
    rw [Lib.indexByte]
    by_cases hb : b = c
    · subst hb; exact ⟨0, by simp, by simp, by simp, by simp⟩
    · have hc : c ∈ l := by rcases List.mem_cons.1 h with e | e; exact absurd e.symm hb; exact e
      obtain ⟨i, h1, h2, h3, h4⟩ := idx_dec l c hc
      have hb' : (b == c) = false := beq_eq_false_iff_ne.2 hb
      refine ⟨i + 1, ?_, by simpa using h2, ?_, ?_⟩
      · have hm : (Lib.indexByte l c == -1) = false := beq_eq_false_iff_ne.2 (by omega)
        simp only [hb', hm, Bool.false_eq_true, if_false]
        omega
      · rw [List.take_succ_cons, List.drop_succ_cons, List.cons_append, ← h3]
      · rw [List.take_succ_cons]
        intro e
        rcases List.mem_cons.1 e with e | e
        · exact hb e.symm
        · exact h4 e
end Go.Proofs.YtoekdcobnmkpaaaGreatDoor
