/-
  strings.ToUpper of ASCII texts.
-/
import Derived.Test.YtneappinkfhjmaaDoorNamV
import Derived.Shelf.Strings.OnBuilder
namespace Go.Proofs.YtneappinkfhjmaaDoor
open Go.RowKit Go.Shelf
set_option linter.unusedSimpArgs false
set_option linter.unusedVariables false
set_option maxRecDepth 100000

def laysUpper_ren : Go.Shelf.Ren := ⟨fun | 118 => 113 | 158 => 18 | 165 => 65 | 166 => 66 | 167 => 67 | 168 => 114 | 169 => 68 | 197 => 112 | 203 => 70 | 230 => 69 | 240 => 110 | 241 => 111 | 242 => 143 | 260 => 142 | 262 => 116 | 270 => 115 | 274 => 156 | 275 => 157 | 276 => 140 | 277 => 141 | 278 => 155 | 313 => 144 | n => n, fun | 0 => 0 | 3 => 3 | 4 => 4 | 5 => 5 | 9 => 9 | 20 => 20 | 21 => 21 | 37 => 22 | 46 => 120 | 51 => 152 | 70 => 100 | 72 => 102 | 75 => 105 | 76 => 106 | 80 => 83 | 105 => 142 | 107 => 110 | 119 => 168 | 127 => 141 | 138 => 170 | 139 => 171 | 160 => 172 | 162 => 165 | 164 => 160 | 203 => 163 | 206 => 179 | 208 => 181 | n => n, fun | 3 => 3 | 4 => 4 | 13 => 1 | n => n⟩
theorem laysUpper : Go.Proofs.Lays.n158 Tryd.prog laysUpper_ren := {
  mixed := by kernel_rfl
  f118 := Tryd.func113.trans (congrArg some (by kernel_rfl))
  f158 := Tryd.func18.trans (congrArg some (by kernel_rfl))
  f165 := Tryd.func65.trans (congrArg some (by kernel_rfl))
  f166 := Tryd.func66.trans (congrArg some (by kernel_rfl))
  f167 := Tryd.func67.trans (congrArg some (by kernel_rfl))
  f168 := Tryd.func114.trans (congrArg some (by kernel_rfl))
  f169 := Tryd.func68.trans (congrArg some (by kernel_rfl))
  f197 := Tryd.func112.trans (congrArg some (by kernel_rfl))
  f203 := Tryd.func70.trans (congrArg some (by kernel_rfl))
  f230 := Tryd.func69.trans (congrArg some (by kernel_rfl))
  f240 := Tryd.func110.trans (congrArg some (by kernel_rfl))
  f241 := Tryd.func111.trans (congrArg some (by kernel_rfl))
  f242 := Tryd.func143.trans (congrArg some (by kernel_rfl))
  f260 := Tryd.func142.trans (congrArg some (by kernel_rfl))
  f262 := Tryd.func116.trans (congrArg some (by kernel_rfl))
  f270 := Tryd.func115.trans (congrArg some (by kernel_rfl))
  f274 := Tryd.func156.trans (congrArg some (by kernel_rfl))
  f275 := Tryd.func157.trans (congrArg some (by kernel_rfl))
  f276 := Tryd.func140.trans (congrArg some (by kernel_rfl))
  f277 := Tryd.func141.trans (congrArg some (by kernel_rfl))
  f278 := Tryd.func155.trans (congrArg some (by kernel_rfl))
  f313 := Tryd.func144.trans (congrArg some (by kernel_rfl))
  t0 := Tryd.underlying0
  a0 := Tryd.isAgg0
  z0 := Tryd.sizeOf0
  v0 := Tryd.zeroValue0
  t3 := Tryd.underlying3
  a3 := Tryd.isAgg3
  z3 := Tryd.sizeOf3
  v3 := Tryd.zeroValue3
  t4 := Tryd.underlying4
  a4 := Tryd.isAgg4
  z4 := Tryd.sizeOf4
  v4 := Tryd.zeroValue4
  t5 := Tryd.underlying5
  a5 := Tryd.isAgg5
  z5 := Tryd.sizeOf5
  v5 := Tryd.zeroValue5
  t9 := Tryd.underlying9
  a9 := Tryd.isAgg9
  z9 := Tryd.sizeOf9
  v9 := Tryd.zeroValue9
  t20 := Tryd.underlying20
  a20 := Tryd.isAgg20
  z20 := Tryd.sizeOf20
  v20 := Tryd.zeroValue20
  t21 := Tryd.underlying21
  a21 := Tryd.isAgg21
  z21 := Tryd.sizeOf21
  v21 := Tryd.zeroValue21
  t37 := Tryd.underlying22
  a37 := Tryd.isAgg22
  z37 := Tryd.sizeOf22
  v37 := Tryd.zeroValue22
  t46 := Tryd.underlying120
  a46 := Tryd.isAgg120
  z46 := Tryd.sizeOf120
  v46 := Tryd.zeroValue120
  t51 := Tryd.underlying152
  a51 := Tryd.isAgg152
  z51 := Tryd.sizeOf152
  v51 := Tryd.zeroValue152
  t70 := Tryd.underlying100
  a70 := Tryd.isAgg100
  z70 := Tryd.sizeOf100
  v70 := Tryd.zeroValue100
  t72 := Tryd.underlying102
  a72 := Tryd.isAgg102
  z72 := Tryd.sizeOf102
  v72 := Tryd.zeroValue102
  t75 := Tryd.underlying105
  a75 := Tryd.isAgg105
  z75 := Tryd.sizeOf105
  v75 := Tryd.zeroValue105
  t76 := Tryd.underlying106
  a76 := Tryd.isAgg106
  z76 := Tryd.sizeOf106
  v76 := Tryd.zeroValue106
  t105 := Tryd.underlying142
  a105 := Tryd.isAgg142
  z105 := Tryd.sizeOf142
  v105 := Tryd.zeroValue142
  t107 := Tryd.underlying110
  a107 := Tryd.isAgg110
  z107 := Tryd.sizeOf110
  v107 := Tryd.zeroValue110
  t119 := Tryd.underlying168
  a119 := Tryd.isAgg168
  z119 := Tryd.sizeOf168
  t127 := Tryd.underlying141
  a127 := Tryd.isAgg141
  z127 := Tryd.sizeOf141
  v127 := Tryd.zeroValue141
  t138 := Tryd.underlying170
  a138 := Tryd.isAgg170
  z138 := Tryd.sizeOf170
  v138 := Tryd.zeroValue170
  t139 := Tryd.underlying171
  a139 := Tryd.isAgg171
  z139 := Tryd.sizeOf171
  v139 := Tryd.zeroValue171
  t160 := Tryd.underlying172
  a160 := Tryd.isAgg172
  z160 := Tryd.sizeOf172
  v160 := Tryd.zeroValue172
  t162 := Tryd.underlying165
  a162 := Tryd.isAgg165
  z162 := Tryd.sizeOf165
  v162 := Tryd.zeroValue165
  t164 := Tryd.underlying160
  a164 := Tryd.isAgg160
  z164 := Tryd.sizeOf160
  v164 := Tryd.zeroValue160
  t203 := Tryd.underlying163
  a203 := Tryd.isAgg163
  z203 := Tryd.sizeOf163
  v203 := Tryd.zeroValue163
  t206 := Tryd.underlying179
  a206 := Tryd.isAgg179
  z206 := Tryd.sizeOf179
  v206 := Tryd.zeroValue179
  t208 := Tryd.underlying181
  a208 := Tryd.isAgg181
  z208 := Tryd.sizeOf181
  v208 := Tryd.zeroValue181
  g3 := by kernel_rfl
  g4 := by kernel_rfl
  g13 := by kernel_rfl }

theorem laysUpperX : Go.Proofs.Builder.Extra Tryd.prog laysUpper_ren := {
  sizeBuilder := by kernel_rfl
  liesBuilder := by kernel_rfl
  t5 := Tryd.underlying5
  a5 := Tryd.isAgg5
  z5 := Tryd.sizeOf5
  v5 := Tryd.zeroValue5
  infoByte := by kernel_rfl
  cellsByte := by kernel_rfl
  sizeByte := by kernel_rfl
  neB5 := by decide }

theorem upper_any (s : ByteArray) (w : World) (hs : s.size ≤ 1000) (ha : ∀ b ∈ s.data.toList, b.toNat < 128) :
    Calls Tryd.prog 18 #[.string s] w fun e w' => ∃ t : ByteArray, e = .returned (.string t) ∧ Kept (fun _ => False) w w' :=
  (Any.strings_ToUpper_ascii (P := Tryd.prog) (ρ := laysUpper_ren) laysUpper laysUpperX s w (by omega) (fun j b hb => ha b (List.mem_of_getElem? hb))).mono fun e w' ⟨h5, h6⟩ => ⟨_, h5, Kept.ofBelow _ h6⟩
end Go.Proofs.YtneappinkfhjmaaDoor
