import Derived.Test.YtjglnpijngdpkaaGreatDoorCore
import Derived.Test.YtjglnpijngdpkaaGreatDoorRows
import Derived.RangeFuncNested
import Derived.RangeFuncBox
import Derived.RangeFuncLeaves
import Derived.Shelf.Abstract
import Derived.Shelf.RegionOpen
import Derived.OwnWalkIn
import Derived.TacticsInMore
import Derived.LoopNIn
import Derived.LoopIn
import Derived.Maps.AppendAt
import Derived.Maps.OwnIn
/-
  slices.AppendSeq over an iterator of ints: every element that comes is appended, in its order.
-/
namespace Go.Proofs.YtjglnpijngdpkaaGreatDoor
open Go.RowKit Go.Shelf
attribute [local go_sem] Oper.semAt_some

/-- But for the blocks in S, what lies below M is as it was. -/
structure KeepM (S : Nat → Prop) (M : Nat) (a b : World) : Prop where
  os : b.os = a.os
  tape : b.tape = a.tape
  output : b.output = a.output
  size : a.heap.size ≤ b.heap.size
  block : ∀ k, k < M → k < a.heap.size → ¬ S k → b.heap[k]? = a.heap[k]?
theorem KeepM.refl (S : Nat → Prop) (M : Nat) (a : World) : KeepM S M a a := ⟨rfl, rfl, rfl, Nat.le_refl _, fun _ _ _ _ => rfl⟩
theorem KeepM.trans {S : Nat → Prop} {M : Nat} {a b c : World} (h : KeepM S M a b) (k : KeepM S M b c) : KeepM S M a c :=
  ⟨k.os.trans h.os, k.tape.trans h.tape, k.output.trans h.output, Nat.le_trans h.size k.size, fun i h1 h2 h3 => (k.block i h1 (Nat.lt_of_lt_of_le h2 h.size) h3).trans (h.block i h1 h2 h3)⟩
theorem KeepM.grown {S : Nat → Prop} {M : Nat} {a b : World} {row : Option Nat} (hg : a.grownBy b row) (hr : ∀ r, row = some r → M ≤ r ∨ S r) : KeepM S M a b :=
  ⟨hg.os, hg.tape, hg.output, hg.size, fun k h1 h2 h3 => hg.block k h2 fun e => by
    rcases hr k e.symm with h | h
    · omega
    · exact h3 h⟩
theorem KeepM.putB {S : Nat → Prop} {M : Nat} (W : World) (l : Nat) (o o' : Obj) (hl : M ≤ l) (_h : W.heap[l]? = some o) (_ : o.isCells = false) (_ : o.isWalk = false) : KeepM S M W (W.putObj l o') :=
  KeepM.grown (grownBy_putObj' W l o') (fun r e => by cases e; exact Or.inl hl)
theorem ownFrom_keepM {β : Type} {S : Nat → Prop} {M B : Nat} {w₀ : World} (hB : M ≤ B) : OwnFrom B (fun (_ : β) W => KeepM S M w₀ W) :=
  fun _ _ _ _ hs hg hr => hs.trans (KeepM.grown hg (fun r e => Or.inl (Nat.le_trans hB (hr r e).1)))
theorem KeepM.kept {S : Nat → Prop} {M : Nat} {a b : World} (h : KeepM S M a b) (hM : a.heap.size ≤ M) : Kept S a b :=
  ⟨h.os, h.tape, h.output, h.size, fun k h1 h2 => h.block k (by omega) h1 h2⟩

theorem info_int9 : (Tryz.prog.info? 3).map (fun i => (i.zero, i.size, i.bytes)) = some (some (.int .i64 0), 1, 8) := by kernel_rfl

/-- Where the row lies that AppendSeq gathers. -/
def RowAt (v0 : Value) (M : Nat) (v : Value) : Prop := ∀ k, v.ownBlock = some k → blk v0 k ∨ M ≤ k

end Go.Proofs.YtjglnpijngdpkaaGreatDoor
