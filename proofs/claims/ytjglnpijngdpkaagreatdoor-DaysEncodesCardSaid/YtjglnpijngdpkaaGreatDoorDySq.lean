import Derived.Test.YtjglnpijngdpkaaGreatDoorDyCh
import Derived.Test.YtjglnpijngdpkaaGreatDoorBSeq
/-
  Days: what slices.Chunk promises a range over it.
-/
namespace Go.Proofs.YtjglnpijngdpkaaGreatDoor
open Go.RowKit Go.Shelf
attribute [local go_sem] Oper.semAt_some
set_option linter.unusedSimpArgs false
set_option linter.unusedVariables false
set_option maxRecDepth 100000

theorem kept_grownD {a b : World} (h : Kept (fun _ => False) a b) : a.grownBy b none :=
  ⟨h.os, h.tape, h.output, h.size, fun k hk _ => h.block k hk (fun h => h)⟩
/-- The iterator's contract, for whoever keeps what it reads. -/
theorem chunk_stops (S : Nat → Prop) (M' B1 B2 g off m n c : Nat) (ra : Option Addr) (hra : 0 < m → ra = some ⟨g, off, none⟩) (w : World) (hn : n = 2 * m) (hnb : n ≤ 100000) (hnc : n ≤ c) (hc : c ≤ 9223372036854775807)
    (hA : ChAt w B1 B2 (.slice ra n c)) (h1 : B1 < M') (h1' : ¬ S B1) (h2 : B2 < M') (h2' : ¬ S B2) :
    SeqStopsK Fence.wide 2 Tryz.prog 66 #[.pointer (some ⟨B1, 0, none⟩), .pointer (some ⟨B2, 0, none⟩)] (fun x : Fin m => #[Value.slice (some ⟨g, off + 2 * x.1, none⟩) 2 2]) (KeepM S M') (fun ys => ys = upF m m) (fun pre => pre <+: upF m m) m w := by
  intro l J Jx W hW hJ hJx hY h0
  refine chunk1_in l B1 B2 g off m n c ra hra (KeepM S M') J Jx W hn hnb hnc hc (fun pre x W1 h1 h2 => hY pre x W1 h1 h2) (fun a b hk ha => ?_) (fun pre a b _ hj hk => hJ pre a b none hj (kept_grownD hk) (fun r e => by cases e)) (fun a b hk => hk.size) (hA.on (Kept.ofBelow _ hW)) h0
  have l1 := World.block_lt_of_cell? a _ ha.c0
  have l2 := World.block_lt_of_cell? a _ ha.c1
  exact ⟨(World.cell?_of_block (w := a) (hk.block B1 h1 l1 h1')).trans ha.c0, (World.cell?_of_block (w := a) (hk.block B2 h2 l2 h2')).trans ha.c1⟩
/-- slices.Chunk by twos: the row and the number in boxes, a function. -/
theorem chunk_any (a : Option Addr) (n c : Nat) (w : World) :
    Calls Tryz.prog 44 #[.slice a n c, .int .i64 2] w fun e w' => e = .returned (.func (.func 66) #[] #[.pointer (some ⟨w.heap.size, 0, none⟩), .pointer (some ⟨w.heap.size + 1, 0, none⟩)]) ∧ w' = (w.alloc (.cells #[.slice a n c] 24)).alloc (.cells #[.int .i64 2] 3) := by
  go_enter Tryz.func44, Tryz.ntmps44
  go_wp2_with fail
  go_ret
  exact ⟨rfl, rfl⟩
end Go.Proofs.YtjglnpijngdpkaaGreatDoor
