/-
  Sets that lie in boxes of a call: a box reads as the set, and goes on to.
-/
import Derived.Test.YteaagllpkcpedaaDoorBIs
namespace Go.Proofs.YteaagllpkcpedaaDoor
open Go.RowKit

theorem SetV.form {w : World} {v : Value} {M : Nat} (h : SetV w v M) : ∃ (lo : Nat) (a : Option Addr) (n c : Nat), v = .agg #[.int .u64 (lo : Int), .slice a n c] := by
  obtain ⟨hv, hs, rfl, hw, _, _⟩ := h.ex
  obtain ⟨a, c, rfl⟩ := hw.form
  exact ⟨_, _, _, _, rfl⟩

/-- A block's two cells are a set's. -/
structure BoxAt (W : World) (p lo : Nat) (x : Value) : Prop where
  c0 : W.cell? ⟨p, 0, none⟩ = some (.int .u64 (lo : Int))
  c1 : W.cell? ⟨p, 1, none⟩ = some x
theorem BoxAt.on {S : Nat → Prop} {W W' : World} {p lo : Nat} {x : Value} (h : BoxAt W p lo x) (hk : Kept S W W') (hn : ¬ S p) : BoxAt W' p lo x :=
  ⟨(hk.cell (p := ⟨p, 0, none⟩) (World.block_lt_of_cell? W _ h.c0) hn).trans h.c0, (hk.cell (p := ⟨p, 1, none⟩) (World.block_lt_of_cell? W _ h.c1) hn).trans h.c1⟩
theorem BoxAt.onC {W W' : World} {p lo : Nat} {x : Value} (h : BoxAt W p lo x) (hk : Kept (fun _ => False) W W') : BoxAt W' p lo x := h.on hk (fun h => h)

theorem box2 (w : World) (la lb : Nat) (pa pb : Option Addr) (na ca nb cb : Nat) :
    BoxAt ((w.alloc (.cells #[.int .u64 la, .slice pa na ca] 28)).alloc (.cells #[.int .u64 lb, .slice pb nb cb] 28)) w.heap.size la (.slice pa na ca) ∧
    BoxAt ((w.alloc (.cells #[.int .u64 la, .slice pa na ca] 28)).alloc (.cells #[.int .u64 lb, .slice pb nb cb] 28)) (w.heap.size + 1) lb (.slice pb nb cb) ∧
    Kept (fun _ => False) w ((w.alloc (.cells #[.int .u64 la, .slice pa na ca] 28)).alloc (.cells #[.int .u64 lb, .slice pb nb cb] 28)) :=
  ⟨⟨by go_simp, by go_simp⟩, ⟨by go_simp, by go_simp⟩, (Kept.alloc _ _ _).then (Kept.alloc _ _ _)⟩
theorem box3 (w : World) (la lb lc : Nat) (pa pb pc : Option Addr) (na ca nb cb nc cc : Nat) :
    BoxAt (((w.alloc (.cells #[.int .u64 la, .slice pa na ca] 28)).alloc (.cells #[.int .u64 lb, .slice pb nb cb] 28)).alloc (.cells #[.int .u64 lc, .slice pc nc cc] 28)) w.heap.size la (.slice pa na ca) ∧
    BoxAt (((w.alloc (.cells #[.int .u64 la, .slice pa na ca] 28)).alloc (.cells #[.int .u64 lb, .slice pb nb cb] 28)).alloc (.cells #[.int .u64 lc, .slice pc nc cc] 28)) (w.heap.size + 1) lb (.slice pb nb cb) ∧
    BoxAt (((w.alloc (.cells #[.int .u64 la, .slice pa na ca] 28)).alloc (.cells #[.int .u64 lb, .slice pb nb cb] 28)).alloc (.cells #[.int .u64 lc, .slice pc nc cc] 28)) (w.heap.size + 1 + 1) lc (.slice pc nc cc) ∧
    Kept (fun _ => False) w (((w.alloc (.cells #[.int .u64 la, .slice pa na ca] 28)).alloc (.cells #[.int .u64 lb, .slice pb nb cb] 28)).alloc (.cells #[.int .u64 lc, .slice pc nc cc] 28)) :=
  ⟨⟨by go_simp, by go_simp⟩, ⟨by go_simp, by go_simp⟩, ⟨by go_simp, by go_simp⟩, ((Kept.alloc _ _ _).then (Kept.alloc _ _ _)).then (Kept.alloc _ _ _)⟩
end Go.Proofs.YteaagllpkcpedaaDoor
