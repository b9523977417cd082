/-
  arbaclaw01.BitsLaws: the operations of its one drawn region. Made by mk_bl3.py of what the kit prints of the program.
-/
import Derived.Test.YtkgpnnegjhnjdaaDoorBBx
import Derived.Test.YtkgpnnegjhnjdaaDoorBOr
import Derived.Test.YtkgpnnegjhnjdaaDoorBAn
import Derived.Test.YtkgpnnegjhnjdaaDoorBMe
import Derived.Test.YtkgpnnegjhnjdaaDoorBMi
import Derived.Deep.RegionHeld3
namespace Go.Proofs.YtkgpnnegjhnjdaaDoor
open Go.RowKit
set_option linter.unusedSimpArgs false
set_option linter.unusedVariables false

set_option maxRecDepth 100000 in
def opsL : Array Oper := #[{ dst := some 21, op := Op.load 27 (Operand.tmp 7), type := 27, pos := "law.go:74", after := #[], guard := none },
  { dst := some 22, op := Op.load 27 (Operand.tmp 8), type := 27, pos := "law.go:74", after := #[], guard := none },
  { dst := some 23, op := Op.call { callee := Callee.value (Operand.func 8), args := #[Operand.tmp 21, Operand.tmp 22], argTypes := #[27, 27] }, type := 27, pos := "law.go:74", after := #[{ on := 0, ground := Ground.data }, { on := 1, ground := Ground.data }], guard := none },
  { dst := some 24, op := Op.load 27 (Operand.tmp 8), type := 27, pos := "law.go:74", after := #[], guard := none },
  { dst := some 25, op := Op.load 27 (Operand.tmp 7), type := 27, pos := "law.go:74", after := #[], guard := none },
  { dst := some 26, op := Op.call { callee := Callee.value (Operand.func 8), args := #[Operand.tmp 24, Operand.tmp 25], argTypes := #[27, 27] }, type := 27, pos := "law.go:74", after := #[{ on := 3, ground := Ground.data }, { on := 4, ground := Ground.data }, { on := 2, ground := Ground.chain }], guard := none },
  { dst := some 27, op := Op.call { callee := Callee.value (Operand.func 9), args := #[Operand.tmp 23, Operand.tmp 26], argTypes := #[27, 27] }, type := 4, pos := "law.go:74", after := #[{ on := 2, ground := Ground.data }, { on := 5, ground := Ground.data }, { on := 5, ground := Ground.chain }], guard := none },
  { dst := some 28, op := Op.move (Operand.tmp 27), type := 4, pos := "law.go:74", after := #[{ on := 6, ground := Ground.data }, { on := 6, ground := Ground.chain }], guard := none },
  { dst := some 29, op := Op.load 27 (Operand.tmp 7), type := 27, pos := "law.go:74", after := #[{ on := 7, ground := Ground.guard }], guard := some (7, true) },
  { dst := some 30, op := Op.load 27 (Operand.tmp 8), type := 27, pos := "law.go:74", after := #[{ on := 7, ground := Ground.guard }], guard := some (7, true) },
  { dst := some 31, op := Op.call { callee := Callee.value (Operand.func 10), args := #[Operand.tmp 29, Operand.tmp 30], argTypes := #[27, 27] }, type := 27, pos := "law.go:74", after := #[{ on := 8, ground := Ground.data }, { on := 9, ground := Ground.data }, { on := 7, ground := Ground.chain }, { on := 7, ground := Ground.guard }], guard := some (7, true) },
  { dst := some 32, op := Op.load 27 (Operand.tmp 8), type := 27, pos := "law.go:74", after := #[{ on := 7, ground := Ground.guard }], guard := some (7, true) },
  { dst := some 33, op := Op.load 27 (Operand.tmp 7), type := 27, pos := "law.go:74", after := #[{ on := 7, ground := Ground.guard }], guard := some (7, true) },
  { dst := some 34, op := Op.call { callee := Callee.value (Operand.func 10), args := #[Operand.tmp 32, Operand.tmp 33], argTypes := #[27, 27] }, type := 27, pos := "law.go:74", after := #[{ on := 11, ground := Ground.data }, { on := 12, ground := Ground.data }, { on := 10, ground := Ground.chain }, { on := 7, ground := Ground.guard }], guard := some (7, true) },
  { dst := some 35, op := Op.call { callee := Callee.value (Operand.func 9), args := #[Operand.tmp 31, Operand.tmp 34], argTypes := #[27, 27] }, type := 4, pos := "law.go:74", after := #[{ on := 10, ground := Ground.data }, { on := 13, ground := Ground.data }, { on := 13, ground := Ground.chain }, { on := 7, ground := Ground.guard }], guard := some (7, true) },
  { dst := some 36, op := Op.pick (Operand.tmp 28) (Operand.tmp 35) (Operand.const (Value.bool false)), type := 4, pos := "law.go:74", after := #[{ on := 7, ground := Ground.data }, { on := 14, ground := Ground.data }], guard := none },
  { dst := some 37, op := Op.move (Operand.tmp 36), type := 4, pos := "law.go:74", after := #[{ on := 15, ground := Ground.data }, { on := 14, ground := Ground.chain }], guard := none },
  { dst := some 38, op := Op.load 27 (Operand.tmp 7), type := 27, pos := "law.go:74", after := #[{ on := 16, ground := Ground.guard }], guard := some (16, true) },
  { dst := some 39, op := Op.load 27 (Operand.tmp 8), type := 27, pos := "law.go:74", after := #[{ on := 16, ground := Ground.guard }], guard := some (16, true) },
  { dst := some 40, op := Op.load 27 (Operand.tmp 9), type := 27, pos := "law.go:74", after := #[{ on := 16, ground := Ground.guard }], guard := some (16, true) },
  { dst := some 41, op := Op.call { callee := Callee.value (Operand.func 8), args := #[Operand.tmp 39, Operand.tmp 40], argTypes := #[27, 27] }, type := 27, pos := "law.go:74", after := #[{ on := 18, ground := Ground.data }, { on := 19, ground := Ground.data }, { on := 16, ground := Ground.chain }, { on := 16, ground := Ground.guard }], guard := some (16, true) },
  { dst := some 42, op := Op.call { callee := Callee.value (Operand.func 8), args := #[Operand.tmp 38, Operand.tmp 41], argTypes := #[27, 27] }, type := 27, pos := "law.go:74", after := #[{ on := 17, ground := Ground.data }, { on := 20, ground := Ground.data }, { on := 20, ground := Ground.chain }, { on := 16, ground := Ground.guard }], guard := some (16, true) },
  { dst := some 43, op := Op.load 27 (Operand.tmp 7), type := 27, pos := "law.go:74", after := #[{ on := 16, ground := Ground.guard }], guard := some (16, true) },
  { dst := some 44, op := Op.load 27 (Operand.tmp 8), type := 27, pos := "law.go:74", after := #[{ on := 16, ground := Ground.guard }], guard := some (16, true) },
  { dst := some 45, op := Op.call { callee := Callee.value (Operand.func 8), args := #[Operand.tmp 43, Operand.tmp 44], argTypes := #[27, 27] }, type := 27, pos := "law.go:74", after := #[{ on := 22, ground := Ground.data }, { on := 23, ground := Ground.data }, { on := 21, ground := Ground.chain }, { on := 16, ground := Ground.guard }], guard := some (16, true) },
  { dst := some 46, op := Op.load 27 (Operand.tmp 9), type := 27, pos := "law.go:74", after := #[{ on := 16, ground := Ground.guard }], guard := some (16, true) },
  { dst := some 47, op := Op.call { callee := Callee.value (Operand.func 8), args := #[Operand.tmp 45, Operand.tmp 46], argTypes := #[27, 27] }, type := 27, pos := "law.go:74", after := #[{ on := 24, ground := Ground.data }, { on := 25, ground := Ground.data }, { on := 24, ground := Ground.chain }, { on := 16, ground := Ground.guard }], guard := some (16, true) },
  { dst := some 48, op := Op.call { callee := Callee.value (Operand.func 9), args := #[Operand.tmp 42, Operand.tmp 47], argTypes := #[27, 27] }, type := 4, pos := "law.go:74", after := #[{ on := 21, ground := Ground.data }, { on := 26, ground := Ground.data }, { on := 26, ground := Ground.chain }, { on := 16, ground := Ground.guard }], guard := some (16, true) },
  { dst := some 49, op := Op.pick (Operand.tmp 37) (Operand.tmp 48) (Operand.const (Value.bool false)), type := 4, pos := "law.go:74", after := #[{ on := 16, ground := Ground.data }, { on := 27, ground := Ground.data }], guard := none },
  { dst := some 50, op := Op.move (Operand.tmp 49), type := 4, pos := "law.go:74", after := #[{ on := 28, ground := Ground.data }, { on := 27, ground := Ground.chain }], guard := none },
  { dst := some 51, op := Op.load 27 (Operand.tmp 7), type := 27, pos := "law.go:74", after := #[{ on := 29, ground := Ground.guard }], guard := some (29, true) },
  { dst := some 52, op := Op.load 27 (Operand.tmp 8), type := 27, pos := "law.go:74", after := #[{ on := 29, ground := Ground.guard }], guard := some (29, true) },
  { dst := some 53, op := Op.load 27 (Operand.tmp 9), type := 27, pos := "law.go:74", after := #[{ on := 29, ground := Ground.guard }], guard := some (29, true) },
  { dst := some 54, op := Op.call { callee := Callee.value (Operand.func 10), args := #[Operand.tmp 52, Operand.tmp 53], argTypes := #[27, 27] }, type := 27, pos := "law.go:74", after := #[{ on := 31, ground := Ground.data }, { on := 32, ground := Ground.data }, { on := 29, ground := Ground.chain }, { on := 29, ground := Ground.guard }], guard := some (29, true) },
  { dst := some 55, op := Op.call { callee := Callee.value (Operand.func 10), args := #[Operand.tmp 51, Operand.tmp 54], argTypes := #[27, 27] }, type := 27, pos := "law.go:74", after := #[{ on := 30, ground := Ground.data }, { on := 33, ground := Ground.data }, { on := 33, ground := Ground.chain }, { on := 29, ground := Ground.guard }], guard := some (29, true) },
  { dst := some 56, op := Op.load 27 (Operand.tmp 7), type := 27, pos := "law.go:74", after := #[{ on := 29, ground := Ground.guard }], guard := some (29, true) },
  { dst := some 57, op := Op.load 27 (Operand.tmp 8), type := 27, pos := "law.go:74", after := #[{ on := 29, ground := Ground.guard }], guard := some (29, true) },
  { dst := some 58, op := Op.call { callee := Callee.value (Operand.func 10), args := #[Operand.tmp 56, Operand.tmp 57], argTypes := #[27, 27] }, type := 27, pos := "law.go:74", after := #[{ on := 35, ground := Ground.data }, { on := 36, ground := Ground.data }, { on := 34, ground := Ground.chain }, { on := 29, ground := Ground.guard }], guard := some (29, true) },
  { dst := some 59, op := Op.load 27 (Operand.tmp 9), type := 27, pos := "law.go:74", after := #[{ on := 29, ground := Ground.guard }], guard := some (29, true) },
  { dst := some 60, op := Op.call { callee := Callee.value (Operand.func 10), args := #[Operand.tmp 58, Operand.tmp 59], argTypes := #[27, 27] }, type := 27, pos := "law.go:74", after := #[{ on := 37, ground := Ground.data }, { on := 38, ground := Ground.data }, { on := 37, ground := Ground.chain }, { on := 29, ground := Ground.guard }], guard := some (29, true) },
  { dst := some 61, op := Op.call { callee := Callee.value (Operand.func 9), args := #[Operand.tmp 55, Operand.tmp 60], argTypes := #[27, 27] }, type := 4, pos := "law.go:74", after := #[{ on := 34, ground := Ground.data }, { on := 39, ground := Ground.data }, { on := 39, ground := Ground.chain }, { on := 29, ground := Ground.guard }], guard := some (29, true) },
  { dst := some 62, op := Op.pick (Operand.tmp 50) (Operand.tmp 61) (Operand.const (Value.bool false)), type := 4, pos := "law.go:74", after := #[{ on := 29, ground := Ground.data }, { on := 40, ground := Ground.data }], guard := none },
  { dst := some 63, op := Op.move (Operand.tmp 62), type := 4, pos := "law.go:74", after := #[{ on := 41, ground := Ground.data }, { on := 40, ground := Ground.chain }], guard := none },
  { dst := some 64, op := Op.load 27 (Operand.tmp 7), type := 27, pos := "law.go:74", after := #[{ on := 42, ground := Ground.guard }], guard := some (42, true) },
  { dst := some 65, op := Op.load 27 (Operand.tmp 8), type := 27, pos := "law.go:74", after := #[{ on := 42, ground := Ground.guard }], guard := some (42, true) },
  { dst := some 66, op := Op.load 27 (Operand.tmp 9), type := 27, pos := "law.go:74", after := #[{ on := 42, ground := Ground.guard }], guard := some (42, true) },
  { dst := some 67, op := Op.call { callee := Callee.value (Operand.func 8), args := #[Operand.tmp 65, Operand.tmp 66], argTypes := #[27, 27] }, type := 27, pos := "law.go:74", after := #[{ on := 44, ground := Ground.data }, { on := 45, ground := Ground.data }, { on := 42, ground := Ground.chain }, { on := 42, ground := Ground.guard }], guard := some (42, true) },
  { dst := some 68, op := Op.call { callee := Callee.value (Operand.func 10), args := #[Operand.tmp 64, Operand.tmp 67], argTypes := #[27, 27] }, type := 27, pos := "law.go:74", after := #[{ on := 43, ground := Ground.data }, { on := 46, ground := Ground.data }, { on := 46, ground := Ground.chain }, { on := 42, ground := Ground.guard }], guard := some (42, true) },
  { dst := some 69, op := Op.load 27 (Operand.tmp 7), type := 27, pos := "law.go:74", after := #[{ on := 42, ground := Ground.guard }], guard := some (42, true) },
  { dst := some 70, op := Op.load 27 (Operand.tmp 8), type := 27, pos := "law.go:74", after := #[{ on := 42, ground := Ground.guard }], guard := some (42, true) },
  { dst := some 71, op := Op.call { callee := Callee.value (Operand.func 10), args := #[Operand.tmp 69, Operand.tmp 70], argTypes := #[27, 27] }, type := 27, pos := "law.go:74", after := #[{ on := 48, ground := Ground.data }, { on := 49, ground := Ground.data }, { on := 47, ground := Ground.chain }, { on := 42, ground := Ground.guard }], guard := some (42, true) },
  { dst := some 72, op := Op.load 27 (Operand.tmp 7), type := 27, pos := "law.go:74", after := #[{ on := 42, ground := Ground.guard }], guard := some (42, true) },
  { dst := some 73, op := Op.load 27 (Operand.tmp 9), type := 27, pos := "law.go:74", after := #[{ on := 42, ground := Ground.guard }], guard := some (42, true) },
  { dst := some 74, op := Op.call { callee := Callee.value (Operand.func 10), args := #[Operand.tmp 72, Operand.tmp 73], argTypes := #[27, 27] }, type := 27, pos := "law.go:74", after := #[{ on := 51, ground := Ground.data }, { on := 52, ground := Ground.data }, { on := 50, ground := Ground.chain }, { on := 42, ground := Ground.guard }], guard := some (42, true) },
  { dst := some 75, op := Op.call { callee := Callee.value (Operand.func 8), args := #[Operand.tmp 71, Operand.tmp 74], argTypes := #[27, 27] }, type := 27, pos := "law.go:74", after := #[{ on := 50, ground := Ground.data }, { on := 53, ground := Ground.data }, { on := 53, ground := Ground.chain }, { on := 42, ground := Ground.guard }], guard := some (42, true) },
  { dst := some 76, op := Op.call { callee := Callee.value (Operand.func 9), args := #[Operand.tmp 68, Operand.tmp 75], argTypes := #[27, 27] }, type := 4, pos := "law.go:74", after := #[{ on := 47, ground := Ground.data }, { on := 54, ground := Ground.data }, { on := 54, ground := Ground.chain }, { on := 42, ground := Ground.guard }], guard := some (42, true) },
  { dst := some 77, op := Op.pick (Operand.tmp 63) (Operand.tmp 76) (Operand.const (Value.bool false)), type := 4, pos := "law.go:74", after := #[{ on := 42, ground := Ground.data }, { on := 55, ground := Ground.data }], guard := none },
  { dst := some 78, op := Op.move (Operand.tmp 77), type := 4, pos := "law.go:74", after := #[{ on := 56, ground := Ground.data }, { on := 55, ground := Ground.chain }], guard := none },
  { dst := some 79, op := Op.load 27 (Operand.tmp 7), type := 27, pos := "law.go:74", after := #[{ on := 57, ground := Ground.guard }], guard := some (57, true) },
  { dst := some 80, op := Op.load 27 (Operand.tmp 8), type := 27, pos := "law.go:74", after := #[{ on := 57, ground := Ground.guard }], guard := some (57, true) },
  { dst := some 81, op := Op.load 27 (Operand.tmp 9), type := 27, pos := "law.go:74", after := #[{ on := 57, ground := Ground.guard }], guard := some (57, true) },
  { dst := some 82, op := Op.call { callee := Callee.value (Operand.func 10), args := #[Operand.tmp 80, Operand.tmp 81], argTypes := #[27, 27] }, type := 27, pos := "law.go:74", after := #[{ on := 59, ground := Ground.data }, { on := 60, ground := Ground.data }, { on := 57, ground := Ground.chain }, { on := 57, ground := Ground.guard }], guard := some (57, true) },
  { dst := some 83, op := Op.call { callee := Callee.value (Operand.func 8), args := #[Operand.tmp 79, Operand.tmp 82], argTypes := #[27, 27] }, type := 27, pos := "law.go:74", after := #[{ on := 58, ground := Ground.data }, { on := 61, ground := Ground.data }, { on := 61, ground := Ground.chain }, { on := 57, ground := Ground.guard }], guard := some (57, true) },
  { dst := some 84, op := Op.load 27 (Operand.tmp 7), type := 27, pos := "law.go:74", after := #[{ on := 57, ground := Ground.guard }], guard := some (57, true) },
  { dst := some 85, op := Op.load 27 (Operand.tmp 8), type := 27, pos := "law.go:74", after := #[{ on := 57, ground := Ground.guard }], guard := some (57, true) },
  { dst := some 86, op := Op.call { callee := Callee.value (Operand.func 8), args := #[Operand.tmp 84, Operand.tmp 85], argTypes := #[27, 27] }, type := 27, pos := "law.go:74", after := #[{ on := 63, ground := Ground.data }, { on := 64, ground := Ground.data }, { on := 62, ground := Ground.chain }, { on := 57, ground := Ground.guard }], guard := some (57, true) },
  { dst := some 87, op := Op.load 27 (Operand.tmp 7), type := 27, pos := "law.go:74", after := #[{ on := 57, ground := Ground.guard }], guard := some (57, true) },
  { dst := some 88, op := Op.load 27 (Operand.tmp 9), type := 27, pos := "law.go:74", after := #[{ on := 57, ground := Ground.guard }], guard := some (57, true) },
  { dst := some 89, op := Op.call { callee := Callee.value (Operand.func 8), args := #[Operand.tmp 87, Operand.tmp 88], argTypes := #[27, 27] }, type := 27, pos := "law.go:74", after := #[{ on := 66, ground := Ground.data }, { on := 67, ground := Ground.data }, { on := 65, ground := Ground.chain }, { on := 57, ground := Ground.guard }], guard := some (57, true) },
  { dst := some 90, op := Op.call { callee := Callee.value (Operand.func 10), args := #[Operand.tmp 86, Operand.tmp 89], argTypes := #[27, 27] }, type := 27, pos := "law.go:74", after := #[{ on := 65, ground := Ground.data }, { on := 68, ground := Ground.data }, { on := 68, ground := Ground.chain }, { on := 57, ground := Ground.guard }], guard := some (57, true) },
  { dst := some 91, op := Op.call { callee := Callee.value (Operand.func 9), args := #[Operand.tmp 83, Operand.tmp 90], argTypes := #[27, 27] }, type := 4, pos := "law.go:74", after := #[{ on := 62, ground := Ground.data }, { on := 69, ground := Ground.data }, { on := 69, ground := Ground.chain }, { on := 57, ground := Ground.guard }], guard := some (57, true) },
  { dst := some 92, op := Op.pick (Operand.tmp 78) (Operand.tmp 91) (Operand.const (Value.bool false)), type := 4, pos := "law.go:74", after := #[{ on := 57, ground := Ground.data }, { on := 70, ground := Ground.data }], guard := none },
  { dst := some 93, op := Op.move (Operand.tmp 92), type := 4, pos := "law.go:74", after := #[{ on := 71, ground := Ground.data }, { on := 70, ground := Ground.chain }], guard := none },
  { dst := some 94, op := Op.load 27 (Operand.tmp 7), type := 27, pos := "law.go:74", after := #[{ on := 72, ground := Ground.guard }], guard := some (72, true) },
  { dst := some 95, op := Op.load 27 (Operand.tmp 8), type := 27, pos := "law.go:74", after := #[{ on := 72, ground := Ground.guard }], guard := some (72, true) },
  { dst := some 96, op := Op.load 27 (Operand.tmp 9), type := 27, pos := "law.go:74", after := #[{ on := 72, ground := Ground.guard }], guard := some (72, true) },
  { dst := some 97, op := Op.call { callee := Callee.value (Operand.func 8), args := #[Operand.tmp 95, Operand.tmp 96], argTypes := #[27, 27] }, type := 27, pos := "law.go:74", after := #[{ on := 74, ground := Ground.data }, { on := 75, ground := Ground.data }, { on := 72, ground := Ground.chain }, { on := 72, ground := Ground.guard }], guard := some (72, true) },
  { dst := some 98, op := Op.call { callee := Callee.value (Operand.func 11), args := #[Operand.tmp 94, Operand.tmp 97], argTypes := #[27, 27] }, type := 27, pos := "law.go:74", after := #[{ on := 73, ground := Ground.data }, { on := 76, ground := Ground.data }, { on := 76, ground := Ground.chain }, { on := 72, ground := Ground.guard }], guard := some (72, true) },
  { dst := some 99, op := Op.load 27 (Operand.tmp 7), type := 27, pos := "law.go:74", after := #[{ on := 72, ground := Ground.guard }], guard := some (72, true) },
  { dst := some 100, op := Op.load 27 (Operand.tmp 8), type := 27, pos := "law.go:74", after := #[{ on := 72, ground := Ground.guard }], guard := some (72, true) },
  { dst := some 101, op := Op.call { callee := Callee.value (Operand.func 11), args := #[Operand.tmp 99, Operand.tmp 100], argTypes := #[27, 27] }, type := 27, pos := "law.go:74", after := #[{ on := 78, ground := Ground.data }, { on := 79, ground := Ground.data }, { on := 77, ground := Ground.chain }, { on := 72, ground := Ground.guard }], guard := some (72, true) },
  { dst := some 102, op := Op.load 27 (Operand.tmp 9), type := 27, pos := "law.go:74", after := #[{ on := 72, ground := Ground.guard }], guard := some (72, true) },
  { dst := some 103, op := Op.call { callee := Callee.value (Operand.func 11), args := #[Operand.tmp 101, Operand.tmp 102], argTypes := #[27, 27] }, type := 27, pos := "law.go:74", after := #[{ on := 80, ground := Ground.data }, { on := 81, ground := Ground.data }, { on := 80, ground := Ground.chain }, { on := 72, ground := Ground.guard }], guard := some (72, true) },
  { dst := some 104, op := Op.call { callee := Callee.value (Operand.func 9), args := #[Operand.tmp 98, Operand.tmp 103], argTypes := #[27, 27] }, type := 4, pos := "law.go:74", after := #[{ on := 77, ground := Ground.data }, { on := 82, ground := Ground.data }, { on := 82, ground := Ground.chain }, { on := 72, ground := Ground.guard }], guard := some (72, true) },
  { dst := some 105, op := Op.pick (Operand.tmp 93) (Operand.tmp 104) (Operand.const (Value.bool false)), type := 4, pos := "law.go:74", after := #[{ on := 72, ground := Ground.data }, { on := 83, ground := Ground.data }], guard := none },
  { dst := some 106, op := Op.move (Operand.tmp 105), type := 4, pos := "law.go:74", after := #[{ on := 84, ground := Ground.data }, { on := 83, ground := Ground.chain }], guard := none },
  { dst := some 107, op := Op.load 27 (Operand.tmp 7), type := 27, pos := "law.go:74", after := #[{ on := 85, ground := Ground.guard }], guard := some (85, true) },
  { dst := some 108, op := Op.load 27 (Operand.tmp 8), type := 27, pos := "law.go:74", after := #[{ on := 85, ground := Ground.guard }], guard := some (85, true) },
  { dst := some 109, op := Op.call { callee := Callee.value (Operand.func 11), args := #[Operand.tmp 107, Operand.tmp 108], argTypes := #[27, 27] }, type := 27, pos := "law.go:74", after := #[{ on := 86, ground := Ground.data }, { on := 87, ground := Ground.data }, { on := 85, ground := Ground.chain }, { on := 85, ground := Ground.guard }], guard := some (85, true) },
  { dst := some 110, op := Op.load 27 (Operand.tmp 7), type := 27, pos := "law.go:74", after := #[{ on := 85, ground := Ground.guard }], guard := some (85, true) },
  { dst := some 111, op := Op.load 27 (Operand.tmp 8), type := 27, pos := "law.go:74", after := #[{ on := 85, ground := Ground.guard }], guard := some (85, true) },
  { dst := some 112, op := Op.call { callee := Callee.value (Operand.func 10), args := #[Operand.tmp 110, Operand.tmp 111], argTypes := #[27, 27] }, type := 27, pos := "law.go:74", after := #[{ on := 89, ground := Ground.data }, { on := 90, ground := Ground.data }, { on := 88, ground := Ground.chain }, { on := 85, ground := Ground.guard }], guard := some (85, true) },
  { dst := some 113, op := Op.call { callee := Callee.value (Operand.func 8), args := #[Operand.tmp 109, Operand.tmp 112], argTypes := #[27, 27] }, type := 27, pos := "law.go:74", after := #[{ on := 88, ground := Ground.data }, { on := 91, ground := Ground.data }, { on := 91, ground := Ground.chain }, { on := 85, ground := Ground.guard }], guard := some (85, true) },
  { dst := some 114, op := Op.load 27 (Operand.tmp 7), type := 27, pos := "law.go:74", after := #[{ on := 85, ground := Ground.guard }], guard := some (85, true) },
  { dst := some 115, op := Op.call { callee := Callee.value (Operand.func 9), args := #[Operand.tmp 113, Operand.tmp 114], argTypes := #[27, 27] }, type := 4, pos := "law.go:74", after := #[{ on := 92, ground := Ground.data }, { on := 93, ground := Ground.data }, { on := 92, ground := Ground.chain }, { on := 85, ground := Ground.guard }], guard := some (85, true) },
  { dst := some 116, op := Op.pick (Operand.tmp 106) (Operand.tmp 115) (Operand.const (Value.bool false)), type := 4, pos := "law.go:74", after := #[{ on := 85, ground := Ground.data }, { on := 94, ground := Ground.data }], guard := none },
  { dst := some 117, op := Op.move (Operand.tmp 116), type := 4, pos := "law.go:74", after := #[{ on := 95, ground := Ground.data }, { on := 94, ground := Ground.chain }], guard := none },
  { dst := some 118, op := Op.load 27 (Operand.tmp 7), type := 27, pos := "law.go:74", after := #[{ on := 96, ground := Ground.guard }], guard := some (96, true) },
  { dst := some 119, op := Op.load 27 (Operand.tmp 8), type := 27, pos := "law.go:74", after := #[{ on := 96, ground := Ground.guard }], guard := some (96, true) },
  { dst := some 120, op := Op.call { callee := Callee.value (Operand.func 11), args := #[Operand.tmp 118, Operand.tmp 119], argTypes := #[27, 27] }, type := 27, pos := "law.go:74", after := #[{ on := 97, ground := Ground.data }, { on := 98, ground := Ground.data }, { on := 96, ground := Ground.chain }, { on := 96, ground := Ground.guard }], guard := some (96, true) },
  { dst := some 121, op := Op.load 27 (Operand.tmp 8), type := 27, pos := "law.go:74", after := #[{ on := 96, ground := Ground.guard }], guard := some (96, true) },
  { dst := some 122, op := Op.call { callee := Callee.value (Operand.func 12), args := #[Operand.tmp 120, Operand.tmp 121], argTypes := #[27, 27] }, type := 4, pos := "law.go:74", after := #[{ on := 99, ground := Ground.data }, { on := 100, ground := Ground.data }, { on := 99, ground := Ground.chain }, { on := 96, ground := Ground.guard }], guard := some (96, true) },
  { dst := some 123, op := Op.unOp UnOp.not 4 (Operand.tmp 122), type := 4, pos := "law.go:74", after := #[{ on := 101, ground := Ground.data }, { on := 96, ground := Ground.guard }], guard := some (96, true) },
  { dst := some 124, op := Op.pick (Operand.tmp 117) (Operand.tmp 123) (Operand.const (Value.bool false)), type := 4, pos := "law.go:74", after := #[{ on := 96, ground := Ground.data }, { on := 102, ground := Ground.data }], guard := none },
  { dst := some 125, op := Op.move (Operand.tmp 124), type := 4, pos := "law.go:74", after := #[{ on := 103, ground := Ground.data }, { on := 101, ground := Ground.chain }], guard := none },
  { dst := some 126, op := Op.load 27 (Operand.tmp 7), type := 27, pos := "law.go:74", after := #[{ on := 104, ground := Ground.guard }], guard := some (104, true) },
  { dst := some 127, op := Op.load 27 (Operand.tmp 7), type := 27, pos := "law.go:74", after := #[{ on := 104, ground := Ground.guard }], guard := some (104, true) },
  { dst := some 128, op := Op.call { callee := Callee.value (Operand.func 8), args := #[Operand.tmp 126, Operand.tmp 127], argTypes := #[27, 27] }, type := 27, pos := "law.go:74", after := #[{ on := 105, ground := Ground.data }, { on := 106, ground := Ground.data }, { on := 104, ground := Ground.chain }, { on := 104, ground := Ground.guard }], guard := some (104, true) },
  { dst := some 129, op := Op.load 27 (Operand.tmp 7), type := 27, pos := "law.go:74", after := #[{ on := 104, ground := Ground.guard }], guard := some (104, true) },
  { dst := some 130, op := Op.call { callee := Callee.value (Operand.func 9), args := #[Operand.tmp 128, Operand.tmp 129], argTypes := #[27, 27] }, type := 4, pos := "law.go:74", after := #[{ on := 107, ground := Ground.data }, { on := 108, ground := Ground.data }, { on := 107, ground := Ground.chain }, { on := 104, ground := Ground.guard }], guard := some (104, true) },
  { dst := some 131, op := Op.pick (Operand.tmp 125) (Operand.tmp 130) (Operand.const (Value.bool false)), type := 4, pos := "law.go:74", after := #[{ on := 104, ground := Ground.data }, { on := 109, ground := Ground.data }], guard := none },
  { dst := some 132, op := Op.move (Operand.tmp 131), type := 4, pos := "law.go:74", after := #[{ on := 110, ground := Ground.data }, { on := 109, ground := Ground.chain }], guard := none },
  { dst := some 133, op := Op.load 27 (Operand.tmp 7), type := 27, pos := "law.go:74", after := #[{ on := 111, ground := Ground.guard }], guard := some (111, true) },
  { dst := some 134, op := Op.load 27 (Operand.tmp 7), type := 27, pos := "law.go:74", after := #[{ on := 111, ground := Ground.guard }], guard := some (111, true) },
  { dst := some 135, op := Op.load 27 (Operand.tmp 8), type := 27, pos := "law.go:74", after := #[{ on := 111, ground := Ground.guard }], guard := some (111, true) },
  { dst := some 136, op := Op.call { callee := Callee.value (Operand.func 10), args := #[Operand.tmp 134, Operand.tmp 135], argTypes := #[27, 27] }, type := 27, pos := "law.go:74", after := #[{ on := 113, ground := Ground.data }, { on := 114, ground := Ground.data }, { on := 111, ground := Ground.chain }, { on := 111, ground := Ground.guard }], guard := some (111, true) },
  { dst := some 137, op := Op.call { callee := Callee.value (Operand.func 8), args := #[Operand.tmp 133, Operand.tmp 136], argTypes := #[27, 27] }, type := 27, pos := "law.go:74", after := #[{ on := 112, ground := Ground.data }, { on := 115, ground := Ground.data }, { on := 115, ground := Ground.chain }, { on := 111, ground := Ground.guard }], guard := some (111, true) },
  { dst := some 138, op := Op.load 27 (Operand.tmp 7), type := 27, pos := "law.go:74", after := #[{ on := 111, ground := Ground.guard }], guard := some (111, true) },
  { dst := some 139, op := Op.call { callee := Callee.value (Operand.func 9), args := #[Operand.tmp 137, Operand.tmp 138], argTypes := #[27, 27] }, type := 4, pos := "law.go:74", after := #[{ on := 116, ground := Ground.data }, { on := 117, ground := Ground.data }, { on := 116, ground := Ground.chain }, { on := 111, ground := Ground.guard }], guard := some (111, true) },
  { dst := some 140, op := Op.pick (Operand.tmp 132) (Operand.tmp 139) (Operand.const (Value.bool false)), type := 4, pos := "law.go:74", after := #[{ on := 111, ground := Ground.data }, { on := 118, ground := Ground.data }], guard := none },
  { dst := some 6, op := Op.assign (Operand.tmp 140), type := 4, pos := "law.go:74", after := ([{ on := 119, ground := Ground.data }, { on := 118, ground := Ground.chain }, { on := 0, ground := Ground.phase }, { on := 1, ground := Ground.phase }, { on := 2, ground := Ground.phase }, { on := 3, ground := Ground.phase }, { on := 4, ground := Ground.phase }, { on := 5, ground := Ground.phase }, { on := 6, ground := Ground.phase }, { on := 7, ground := Ground.phase }, { on := 8, ground := Ground.phase }, { on := 9, ground := Ground.phase }, { on := 10, ground := Ground.phase }, { on := 11, ground := Ground.phase }, { on := 12, ground := Ground.phase }, { on := 13, ground := Ground.phase }, { on := 14, ground := Ground.phase }, { on := 15, ground := Ground.phase }, { on := 16, ground := Ground.phase }, { on := 17, ground := Ground.phase }, { on := 18, ground := Ground.phase }, { on := 19, ground := Ground.phase }, { on := 20, ground := Ground.phase }, { on := 21, ground := Ground.phase }, { on := 22, ground := Ground.phase }, { on := 23, ground := Ground.phase }, { on := 24, ground := Ground.phase }, { on := 25, ground := Ground.phase }, { on := 26, ground := Ground.phase }, { on := 27, ground := Ground.phase }, { on := 28, ground := Ground.phase }, { on := 29, ground := Ground.phase }, { on := 30, ground := Ground.phase }, { on := 31, ground := Ground.phase }, { on := 32, ground := Ground.phase }, { on := 33, ground := Ground.phase }, { on := 34, ground := Ground.phase }, { on := 35, ground := Ground.phase }, { on := 36, ground := Ground.phase }, { on := 37, ground := Ground.phase }, { on := 38, ground := Ground.phase }, { on := 39, ground := Ground.phase }, { on := 40, ground := Ground.phase }, { on := 41, ground := Ground.phase }, { on := 42, ground := Ground.phase }, { on := 43, ground := Ground.phase }, { on := 44, ground := Ground.phase }, { on := 45, ground := Ground.phase }, { on := 46, ground := Ground.phase }, { on := 47, ground := Ground.phase }, { on := 48, ground := Ground.phase }, { on := 49, ground := Ground.phase }, { on := 50, ground := Ground.phase }, { on := 51, ground := Ground.phase }, { on := 52, ground := Ground.phase }, { on := 53, ground := Ground.phase }, { on := 54, ground := Ground.phase }, { on := 55, ground := Ground.phase }, { on := 56, ground := Ground.phase }, { on := 57, ground := Ground.phase }, { on := 58, ground := Ground.phase }].append [{ on := 59, ground := Ground.phase }, { on := 60, ground := Ground.phase }, { on := 61, ground := Ground.phase }, { on := 62, ground := Ground.phase }, { on := 63, ground := Ground.phase }, { on := 64, ground := Ground.phase }, { on := 65, ground := Ground.phase }, { on := 66, ground := Ground.phase }, { on := 67, ground := Ground.phase }, { on := 68, ground := Ground.phase }, { on := 69, ground := Ground.phase }, { on := 70, ground := Ground.phase }, { on := 71, ground := Ground.phase }, { on := 72, ground := Ground.phase }, { on := 73, ground := Ground.phase }, { on := 74, ground := Ground.phase }, { on := 75, ground := Ground.phase }, { on := 76, ground := Ground.phase }, { on := 77, ground := Ground.phase }, { on := 78, ground := Ground.phase }, { on := 79, ground := Ground.phase }, { on := 80, ground := Ground.phase }, { on := 81, ground := Ground.phase }, { on := 82, ground := Ground.phase }, { on := 83, ground := Ground.phase }, { on := 84, ground := Ground.phase }, { on := 85, ground := Ground.phase }, { on := 86, ground := Ground.phase }, { on := 87, ground := Ground.phase }, { on := 88, ground := Ground.phase }, { on := 89, ground := Ground.phase }, { on := 90, ground := Ground.phase }, { on := 91, ground := Ground.phase }, { on := 92, ground := Ground.phase }, { on := 93, ground := Ground.phase }, { on := 94, ground := Ground.phase }, { on := 95, ground := Ground.phase }, { on := 96, ground := Ground.phase }, { on := 97, ground := Ground.phase }, { on := 98, ground := Ground.phase }, { on := 99, ground := Ground.phase }, { on := 100, ground := Ground.phase }, { on := 101, ground := Ground.phase }, { on := 102, ground := Ground.phase }, { on := 103, ground := Ground.phase }, { on := 104, ground := Ground.phase }, { on := 105, ground := Ground.phase }, { on := 106, ground := Ground.phase }, { on := 107, ground := Ground.phase }, { on := 108, ground := Ground.phase }, { on := 109, ground := Ground.phase }, { on := 110, ground := Ground.phase }, { on := 111, ground := Ground.phase }, { on := 112, ground := Ground.phase }, { on := 113, ground := Ground.phase }, { on := 114, ground := Ground.phase }, { on := 115, ground := Ground.phase }, { on := 116, ground := Ground.phase }, { on := 117, ground := Ground.phase }, { on := 118, ground := Ground.phase }, { on := 119, ground := Ground.phase }]).toArray, guard := none }]
theorem cast_listed {P : Program} {md : Region.Mode} {ops : Array Oper} {Q : Exit → Act → World → Prop} {S : World → Prop} {fuel : Nat} {l1 l2 : Array Bool} {a : Act} {w : World} (h : l1 = l2) (H : wpAnyH P md ops Q S fuel l2 a w) : wpAnyH P md ops Q S fuel l1 a w := by
  rw [h]; exact H
theorem cast_ops {P : Program} {md : Region.Mode} {ops ops2 : Array Oper} {Q : Exit → Act → World → Prop} {S : World → Prop} {fuel fuel2 : Nat} {l1 l2 : Array Bool} {a : Act} {w : World} (ho : ops = ops2) (hf : fuel = fuel2) (h : l1 = l2) (H : wpAnyH P md ops2 Q S fuel2 l2 a w) : wpAnyH P md ops Q S fuel l1 a w := by
  rw [ho, hf, h]; exact H

theorem bl_0 (A B C : Nat) : (A ||| B) = (B ||| A) := by
  refine Nat.eq_of_testBit_eq fun i => ?_
  simp only [Nat.testBit_or, Nat.testBit_and, anN_bit]
  cases A.testBit i <;> cases B.testBit i <;> cases C.testBit i <;> rfl

theorem bl_1 (A B C : Nat) : (A &&& B) = (B &&& A) := by
  refine Nat.eq_of_testBit_eq fun i => ?_
  simp only [Nat.testBit_or, Nat.testBit_and, anN_bit]
  cases A.testBit i <;> cases B.testBit i <;> cases C.testBit i <;> rfl

theorem bl_2 (A B C : Nat) : (A ||| (B ||| C)) = ((A ||| B) ||| C) := by
  refine Nat.eq_of_testBit_eq fun i => ?_
  simp only [Nat.testBit_or, Nat.testBit_and, anN_bit]
  cases A.testBit i <;> cases B.testBit i <;> cases C.testBit i <;> rfl

theorem bl_3 (A B C : Nat) : (A &&& (B &&& C)) = ((A &&& B) &&& C) := by
  refine Nat.eq_of_testBit_eq fun i => ?_
  simp only [Nat.testBit_or, Nat.testBit_and, anN_bit]
  cases A.testBit i <;> cases B.testBit i <;> cases C.testBit i <;> rfl

theorem bl_4 (A B C : Nat) : (A &&& (B ||| C)) = ((A &&& B) ||| (A &&& C)) := by
  refine Nat.eq_of_testBit_eq fun i => ?_
  simp only [Nat.testBit_or, Nat.testBit_and, anN_bit]
  cases A.testBit i <;> cases B.testBit i <;> cases C.testBit i <;> rfl

theorem bl_5 (A B C : Nat) : (A ||| (B &&& C)) = ((A ||| B) &&& (A ||| C)) := by
  refine Nat.eq_of_testBit_eq fun i => ?_
  simp only [Nat.testBit_or, Nat.testBit_and, anN_bit]
  cases A.testBit i <;> cases B.testBit i <;> cases C.testBit i <;> rfl

theorem bl_6 (A B C : Nat) : (anN A (B ||| C)) = (anN (anN A B) C) := by
  refine Nat.eq_of_testBit_eq fun i => ?_
  simp only [Nat.testBit_or, Nat.testBit_and, anN_bit]
  cases A.testBit i <;> cases B.testBit i <;> cases C.testBit i <;> rfl

theorem bl_7 (A B C : Nat) : ((anN A B) ||| (A &&& B)) = A := by
  refine Nat.eq_of_testBit_eq fun i => ?_
  simp only [Nat.testBit_or, Nat.testBit_and, anN_bit]
  cases A.testBit i <;> cases B.testBit i <;> cases C.testBit i <;> rfl

theorem bl_8 (A B C : Nat) : (anN A B) &&& B = 0 := by
  refine Nat.eq_of_testBit_eq fun i => ?_
  simp only [Nat.testBit_or, Nat.testBit_and, anN_bit, Nat.zero_testBit]
  cases A.testBit i <;> cases B.testBit i <;> rfl

theorem bl_9 (A B C : Nat) : (A ||| A) = A := by
  refine Nat.eq_of_testBit_eq fun i => ?_
  simp only [Nat.testBit_or, Nat.testBit_and, anN_bit]
  cases A.testBit i <;> cases B.testBit i <;> cases C.testBit i <;> rfl

theorem bl_10 (A B C : Nat) : (A ||| (A &&& B)) = A := by
  refine Nat.eq_of_testBit_eq fun i => ?_
  simp only [Nat.testBit_or, Nat.testBit_and, anN_bit]
  cases A.testBit i <;> cases B.testBit i <;> cases C.testBit i <;> rfl

end Go.Proofs.YtkgpnnegjhnjdaaDoor
