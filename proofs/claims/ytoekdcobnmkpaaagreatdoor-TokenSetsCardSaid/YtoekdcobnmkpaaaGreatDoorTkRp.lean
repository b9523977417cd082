/-
  Tokens, for TokenSets: strings.ReplaceAll of blanks by commas and strings.Trim at braces, laid. Seat .ZD alone (strings.ReplaceAll).
-/
import Derived.Test.YtoekdcobnmkpaaaGreatDoorTkSx
import Derived.Shelf.Strings.Replace
import Derived.Shelf.Strings.SlTrimAscii
namespace Go.Proofs.YtoekdcobnmkpaaaGreatDoor
open Go.RowKit Go.Shelf
set_option linter.unusedSimpArgs false
set_option linter.unusedVariables false
set_option maxRecDepth 100000

def laysRpA_ren : Go.Shelf.Ren := ⟨fun | 138 => 52 | 143 => 54 | 154 => 33 | 155 => 9 | 165 => 53 | 166 => 55 | 169 => 56 | 195 => 70 | 197 => 45 | 217 => 75 | 218 => 71 | 219 => 74 | 224 => 79 | 225 => 80 | 240 => 72 | 241 => 73 | 260 => 65 | 266 => 88 | 267 => 87 | 276 => 85 | 277 => 86 | 314 => 96 | n => n, fun | 0 => 0 | 3 => 3 | 4 => 4 | 5 => 5 | 9 => 9 | 20 => 20 | 21 => 21 | 37 => 64 | 46 => 105 | 51 => 122 | 70 => 87 | 72 => 89 | 75 => 92 | 76 => 93 | 80 => 32 | 105 => 81 | 119 => 104 | 127 => 103 | 138 => 107 | 139 => 108 | 146 => 125 | 164 => 116 | n => n, fun | 1 => 4 | 3 => 1 | 4 => 2 | n => n⟩
theorem laysRpA : Go.Proofs.Lays.n155 Tryz.prog laysRpA_ren := {
  mixed := by kernel_rfl
  f138 := Tryz.func52.trans (congrArg some (by kernel_rfl))
  f143 := Tryz.func54.trans (congrArg some (by kernel_rfl))
  f154 := Tryz.func33.trans (congrArg some (by kernel_rfl))
  f155 := Tryz.func9.trans (congrArg some (by kernel_rfl))
  f165 := Tryz.func53.trans (congrArg some (by kernel_rfl))
  f166 := Tryz.func55.trans (congrArg some (by kernel_rfl))
  f169 := Tryz.func56.trans (congrArg some (by kernel_rfl))
  f195 := Tryz.func70.trans (congrArg some (by kernel_rfl))
  f197 := Tryz.func45.trans (congrArg some (by kernel_rfl))
  f217 := Tryz.func75.trans (congrArg some (by kernel_rfl))
  f218 := Tryz.func71.trans (congrArg some (by kernel_rfl))
  f219 := Tryz.func74.trans (congrArg some (by kernel_rfl))
  f224 := Tryz.func79.trans (congrArg some (by kernel_rfl))
  f225 := Tryz.func80.trans (congrArg some (by kernel_rfl))
  f240 := Tryz.func72.trans (congrArg some (by kernel_rfl))
  f241 := Tryz.func73.trans (congrArg some (by kernel_rfl))
  f260 := Tryz.func65.trans (congrArg some (by kernel_rfl))
  f266 := Tryz.func88.trans (congrArg some (by kernel_rfl))
  f267 := Tryz.func87.trans (congrArg some (by kernel_rfl))
  f276 := Tryz.func85.trans (congrArg some (by kernel_rfl))
  f277 := Tryz.func86.trans (congrArg some (by kernel_rfl))
  f314 := Tryz.func96.trans (congrArg some (by kernel_rfl))
  t0 := Tryz.underlying0
  a0 := Tryz.isAgg0
  z0 := Tryz.sizeOf0
  v0 := Tryz.zeroValue0
  t3 := Tryz.underlying3
  a3 := Tryz.isAgg3
  z3 := Tryz.sizeOf3
  v3 := Tryz.zeroValue3
  t4 := Tryz.underlying4
  a4 := Tryz.isAgg4
  z4 := Tryz.sizeOf4
  v4 := Tryz.zeroValue4
  t5 := Tryz.underlying5
  a5 := Tryz.isAgg5
  z5 := Tryz.sizeOf5
  v5 := Tryz.zeroValue5
  t9 := Tryz.underlying9
  a9 := Tryz.isAgg9
  z9 := Tryz.sizeOf9
  v9 := Tryz.zeroValue9
  t20 := Tryz.underlying20
  a20 := Tryz.isAgg20
  z20 := Tryz.sizeOf20
  v20 := Tryz.zeroValue20
  t21 := Tryz.underlying21
  a21 := Tryz.isAgg21
  z21 := Tryz.sizeOf21
  v21 := Tryz.zeroValue21
  t37 := Tryz.underlying64
  a37 := Tryz.isAgg64
  z37 := Tryz.sizeOf64
  v37 := Tryz.zeroValue64
  t46 := Tryz.underlying105
  a46 := Tryz.isAgg105
  z46 := Tryz.sizeOf105
  v46 := Tryz.zeroValue105
  t51 := Tryz.underlying122
  a51 := Tryz.isAgg122
  z51 := Tryz.sizeOf122
  v51 := Tryz.zeroValue122
  t70 := Tryz.underlying87
  a70 := Tryz.isAgg87
  z70 := Tryz.sizeOf87
  v70 := Tryz.zeroValue87
  t72 := Tryz.underlying89
  a72 := Tryz.isAgg89
  z72 := Tryz.sizeOf89
  v72 := Tryz.zeroValue89
  t75 := Tryz.underlying92
  a75 := Tryz.isAgg92
  z75 := Tryz.sizeOf92
  v75 := Tryz.zeroValue92
  t76 := Tryz.underlying93
  a76 := Tryz.isAgg93
  z76 := Tryz.sizeOf93
  v76 := Tryz.zeroValue93
  t105 := Tryz.underlying81
  a105 := Tryz.isAgg81
  z105 := Tryz.sizeOf81
  v105 := Tryz.zeroValue81
  t119 := Tryz.underlying104
  a119 := Tryz.isAgg104
  z119 := Tryz.sizeOf104
  t127 := Tryz.underlying103
  a127 := Tryz.isAgg103
  z127 := Tryz.sizeOf103
  v127 := Tryz.zeroValue103
  t138 := Tryz.underlying107
  a138 := Tryz.isAgg107
  z138 := Tryz.sizeOf107
  v138 := Tryz.zeroValue107
  t139 := Tryz.underlying108
  a139 := Tryz.isAgg108
  z139 := Tryz.sizeOf108
  v139 := Tryz.zeroValue108
  t146 := Tryz.underlying125
  a146 := Tryz.isAgg125
  z146 := Tryz.sizeOf125
  v146 := Tryz.zeroValue125
  t164 := Tryz.underlying116
  a164 := Tryz.isAgg116
  z164 := Tryz.sizeOf116
  v164 := Tryz.zeroValue116
  g1 := by kernel_rfl
  g3 := by kernel_rfl
  g4 := by kernel_rfl }

theorem laysRpAX : Go.Proofs.Builder.Extra Tryz.prog laysRpA_ren := {
  sizeBuilder := by kernel_rfl
  liesBuilder := by kernel_rfl
  t5 := Tryz.underlying5
  a5 := Tryz.isAgg5
  z5 := Tryz.sizeOf5
  v5 := Tryz.zeroValue5
  infoByte := by kernel_rfl
  cellsByte := by kernel_rfl
  sizeByte := by kernel_rfl
  neB5 := by decide }

/-- internal/bytealg.MaxLen holds a number (the walk of ReplaceAll reads it; a row's first world says so: ShapedOpen). -/
def MaxAt (w : World) : Prop := ∃ m : Int, w.cell? ⟨4, 0, none⟩ = some (.int .i64 m)
theorem MaxAt.kept {w w' : World} (h : MaxAt w) (hk : Kept (fun _ => False) w w') : MaxAt w' := by
  obtain ⟨m, hm⟩ := h
  exact ⟨m, (hk.cell (p := ⟨4, 0, none⟩) (World.block_lt_of_cell? w _ hm) (fun h => h)).trans hm⟩
theorem comma_any (s : ByteArray) (w : World) (h : MaxAt w) (hs : s.size ≤ 1000000) :
    Calls Tryz.prog 9 #[.string s, .string ⟨#[32]⟩, .string ⟨#[44]⟩] w fun e w' => e = .returned (.string ⟨(s.data.toList.map toComma).toArray⟩) ∧ Kept (fun _ => False) w w' := by
  obtain ⟨m, hm⟩ := h
  have hle := Lib.countB_le ⟨#[32]⟩ (by decide) s.size s (Nat.le_refl _)
  have c := Any.strings_ReplaceAll laysRpA laysRpAX s ⟨#[32]⟩ ⟨#[44]⟩ m w (by omega) hm (by decide) (by show s.size + Lib.countB s ⟨#[32]⟩ * 1 ≤ _; omega)
  exact c.mono fun e w' ⟨h1, h2⟩ => ⟨by rw [h1, ← replace_comma], Kept.ofBelow _ h2⟩
theorem braces_any (J : List UInt8) (hj : ∀ b ∈ J, ([123, 125] : List UInt8).contains b = false) (hl : J.length ≤ 100000) (w : World) :
    Calls Tryz.prog 7 #[.string ⟨(123 :: J ++ [125]).toArray⟩, .string ⟨#[123, 125]⟩] w fun e w' => e = .returned (.string ⟨J.toArray⟩) ∧ Kept (fun _ => False) w w' := by
  have c := Any.strings_Trim_laid laysTrimT trim_hi ⟨(123 :: J ++ [125]).toArray⟩ ⟨#[123, 125]⟩ w (by show (123 :: J ++ [125]).toArray.size ≤ _; simp; omega) (by decide) (ascii_of_all (by decide))
  exact c.mono fun e w' ⟨h1, h2⟩ => ⟨by rw [h1]; show Ending.returned (.string ⟨(Lib.trimS (123 :: J ++ [125]).toArray.toList [123, 125]).toArray⟩) = _; rw [List.toList_toArray, trim_braces J hj], Kept.ofBelow _ h2⟩
end Go.Proofs.YtoekdcobnmkpaaaGreatDoor
