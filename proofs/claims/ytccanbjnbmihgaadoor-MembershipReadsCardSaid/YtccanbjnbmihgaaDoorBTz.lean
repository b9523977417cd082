/-
  bits: leastIn; the library's contract of math/bits.TrailingZeros64, laid at this seat's program.
-/
import Derived.Test.YtccanbjnbmihgaaDoorBAm
import Derived.Test.YtccanbjnbmihgaaDoorCore
import Derived.Test.YtccanbjnbmihgaaDoorRows
import Derived.Shelf.Spec.TrailingZeros
import Derived.Shelf.Lays7
namespace Go.Proofs.YtccanbjnbmihgaaDoor
open Go.RowKit Go.Shelf

def laysTz_ren : Go.Shelf.Ren := ⟨fun | 29 => 100 | n => n, fun | 0 => 0 | 3 => 3 | 4 => 4 | 5 => 5 | 22 => 53 | 25 => 139 | 54 => 145 | n => n, fun | 1 => 0 | n => n⟩
theorem laysTz : Go.Proofs.Lays7.n29 Tryd.prog laysTz_ren := {
  mixed := by kernel_rfl
  f29 := Tryd.func100.trans (congrArg some (by kernel_rfl))
  t0 := Tryd.underlying0
  a0 := Tryd.isAgg0
  z0 := Tryd.sizeOf0
  v0 := Tryd.zeroValue0
  i0 := by kernel_rfl
  t3 := Tryd.underlying3
  a3 := Tryd.isAgg3
  z3 := Tryd.sizeOf3
  v3 := Tryd.zeroValue3
  i3 := by kernel_rfl
  t4 := Tryd.underlying4
  a4 := Tryd.isAgg4
  z4 := Tryd.sizeOf4
  v4 := Tryd.zeroValue4
  i4 := by kernel_rfl
  t5 := Tryd.underlying5
  a5 := Tryd.isAgg5
  z5 := Tryd.sizeOf5
  v5 := Tryd.zeroValue5
  i5 := by kernel_rfl
  t22 := Tryd.underlying53
  a22 := Tryd.isAgg53
  z22 := Tryd.sizeOf53
  v22 := Tryd.zeroValue53
  i22 := by kernel_rfl
  t25 := Tryd.underlying139
  a25 := Tryd.isAgg139
  z25 := Tryd.sizeOf139
  v25 := Tryd.zeroValue139
  i25 := by kernel_rfl
  t54 := Tryd.underlying145
  a54 := Tryd.isAgg145
  z54 := Tryd.sizeOf145
  g1 := by kernel_rfl }

/-- The library's table lies where the program lays it. -/
structure Tz (w : World) : Prop where
  lt : 0 < w.heap.size
  tab : Go.Proofs.TabAt 0 Lib.deBruijn64tab w
theorem Tz.kept {S : Nat → Prop} {a b : World} (h : Tz a) (hk : Kept S a b) (hn : ¬ S 0) : Tz b :=
  ⟨Nat.lt_of_lt_of_le h.lt hk.size, fun j hj => (hk.cell (p := ⟨0, j, none⟩) h.lt hn).trans (h.tab j hj)⟩

theorem sh_Tz (x : Nat) (hx : x < 18446744073709551616) (w : World) (hT : Tz w) : Calls Tryd.prog 100 #[.int .u64 x] w fun e w' => e = .returned (.int .i64 (Lib.ctz 64 x)) ∧ w = w' :=
  (Any7.bits_TrailingZeros64 laysTz x hx w (fun _ => hT.tab)).mono fun _ _ h => ⟨h.1, h.2.symm⟩

set_option maxRecDepth 100000 in
theorem leastIn_any (x k : Nat) (hx : x < 18446744073709551616) (hk : k ≤ 1000) (hc : Lib.ctz 64 x ≤ 64) (w : World) (hT : Tz w) :
    Calls Tryd.prog 88 #[.int .u64 x, .int .i64 k] w fun e w' => e = .returned (.int .i64 ((64 * k + Lib.ctz 64 x : Nat) : Int)) ∧ w = w' := by
  have H := Lib.hid (sh_Tz x hx w hT)
  clear hT
  generalize Lib.ctz 64 x = j at H hc ⊢
  go_enter Tryd.func88, Tryd.ntmps88
  go_wp2_with fail
  refine H.out.mono ?_
  rintro e w1 ⟨rfl, rfl⟩
  go_wp2_with fail
  go_ret
  exact ⟨by rw [show ((64 * k + j : Nat) : Int) = (k : Int) * 64 + j by omega]; rfl, rfl⟩
end Go.Proofs.YtccanbjnbmihgaaDoor
