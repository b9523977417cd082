/-
  bits: leastIn; the library's contract of math/bits.TrailingZeros64, laid at this seat's program.
-/
import Derived.Test.YteaagllpkcpedaaGreatDoorBAm
import Derived.Test.YteaagllpkcpedaaGreatDoorCore
import Derived.Test.YteaagllpkcpedaaGreatDoorRows
import Derived.Shelf.Spec.TrailingZeros
import Derived.Shelf.Lays7
namespace Go.Proofs.YteaagllpkcpedaaGreatDoor
open Go.RowKit Go.Shelf

def laysTz_ren : Go.Shelf.Ren := ⟨fun | 29 => 55 | n => n, fun | 0 => 0 | 3 => 3 | 4 => 4 | 5 => 5 | 22 => 25 | 25 => 74 | 54 => 88 | n => n, fun | 1 => 1 | n => n⟩
theorem laysTz : Go.Proofs.Lays7.n29 Tryz.prog laysTz_ren := {
  mixed := by kernel_rfl
  f29 := Tryz.func55.trans (congrArg some (by kernel_rfl))
  t0 := Tryz.underlying0
  a0 := Tryz.isAgg0
  z0 := Tryz.sizeOf0
  v0 := Tryz.zeroValue0
  i0 := by kernel_rfl
  t3 := Tryz.underlying3
  a3 := Tryz.isAgg3
  z3 := Tryz.sizeOf3
  v3 := Tryz.zeroValue3
  i3 := by kernel_rfl
  t4 := Tryz.underlying4
  a4 := Tryz.isAgg4
  z4 := Tryz.sizeOf4
  v4 := Tryz.zeroValue4
  i4 := by kernel_rfl
  t5 := Tryz.underlying5
  a5 := Tryz.isAgg5
  z5 := Tryz.sizeOf5
  v5 := Tryz.zeroValue5
  i5 := by kernel_rfl
  t22 := Tryz.underlying25
  a22 := Tryz.isAgg25
  z22 := Tryz.sizeOf25
  v22 := Tryz.zeroValue25
  i22 := by kernel_rfl
  t25 := Tryz.underlying74
  a25 := Tryz.isAgg74
  z25 := Tryz.sizeOf74
  v25 := Tryz.zeroValue74
  i25 := by kernel_rfl
  t54 := Tryz.underlying88
  a54 := Tryz.isAgg88
  z54 := Tryz.sizeOf88
  g1 := by kernel_rfl }

/-- The library's table lies where the program lays it. -/
structure Tz (w : World) : Prop where
  lt : 1 < w.heap.size
  tab : Go.Proofs.TabAt 1 Lib.deBruijn64tab w
theorem Tz.kept {S : Nat → Prop} {a b : World} (h : Tz a) (hk : Kept S a b) (hn : ¬ S 1) : Tz b :=
  ⟨Nat.lt_of_lt_of_le h.lt hk.size, fun j hj => (hk.cell (p := ⟨1, j, none⟩) h.lt hn).trans (h.tab j hj)⟩

theorem sh_Tz (x : Nat) (hx : x < 18446744073709551616) (w : World) (hT : Tz w) : Calls Tryz.prog 55 #[.int .u64 x] w fun e w' => e = .returned (.int .i64 (Lib.ctz 64 x)) ∧ w = w' :=
  (Any7.bits_TrailingZeros64 laysTz x hx w (fun _ => hT.tab)).mono fun _ _ h => ⟨h.1, h.2.symm⟩

set_option maxRecDepth 100000 in
theorem leastIn_any (x k : Nat) (hx : x < 18446744073709551616) (hk : k ≤ 1000) (hc : Lib.ctz 64 x ≤ 64) (w : World) (hT : Tz w) :
    Calls Tryz.prog 43 #[.int .u64 x, .int .i64 k] w fun e w' => e = .returned (.int .i64 ((64 * k + Lib.ctz 64 x : Nat) : Int)) ∧ w = w' := by
  have H := Lib.hid (sh_Tz x hx w hT)
  clear hT
  generalize Lib.ctz 64 x = j at H hc ⊢
  go_enter Tryz.func43, Tryz.ntmps43
  go_wp2_with fail
  refine H.out.mono ?_
  rintro e w1 ⟨rfl, rfl⟩
  go_wp2_with fail
  go_ret
  exact ⟨by rw [show ((64 * k + j : Nat) : Int) = (k : Int) * 64 + j by omega]; rfl, rfl⟩
end Go.Proofs.YteaagllpkcpedaaGreatDoor
