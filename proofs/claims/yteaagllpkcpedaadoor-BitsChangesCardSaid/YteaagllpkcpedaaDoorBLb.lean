/-
  What the walks of bits ask of the library's variables, and that it lasts.
-/
import Derived.Test.YteaagllpkcpedaaDoorBPaL
import Derived.Test.YteaagllpkcpedaaDoorBTz
import Derived.Lib.AppendIntMem
import Derived.Lib.Space
namespace Go.Proofs.YteaagllpkcpedaaDoor
open Go.RowKit Go.Shelf

/-- The library's variables as the library's text lays them. -/
structure Libs (w : World) : Prop where
  tz : Tz w
  pow : Lib.TabIs Tryd.prog w "internal/strconv.uint64pow10" .u64 Lib.pow10Tab
  asc : ∀ c, c < 256 → w.cell? ⟨0, c, none⟩ = some (.int .u8 (if Lib.isSp (UInt8.ofNat c) then 1 else 0))
  utf : Lib.Utf8Tabs 3 4 w
  white : Lib.WhiteTab 1 w
  esyn : ∃ ev, w.cell? ⟨5, 0, none⟩ = some ev ∧ (ev = .nilIface ∨ ∃ te pe, ev = .iface te pe)
  eran : ∃ ev, w.cell? ⟨6, 0, none⟩ = some ev ∧ (ev = .nilIface ∨ ∃ te pe, ev = .iface te pe)

theorem below_cell {a b : World} (hb : Below a.heap.size a b) {p : Addr} {v : Value} (h : a.cell? p = some v) : b.cell? p = some v :=
  (hb.cell (World.block_lt_of_cell? a _ h)).trans h

theorem Libs.below {a b : World} (h : Libs a) (hb : Below a.heap.size a b) : Libs b := by
  refine ⟨⟨Nat.lt_of_lt_of_le h.tz.lt hb.size, fun j hj => below_cell hb (h.tz.tab j hj)⟩, (Lib.tabBelow_of_tabIs h.pow) b hb, fun c hc => below_cell hb (h.asc c hc), ⟨fun c hc => below_cell hb (h.utf.1 c hc), fun i hi => ⟨below_cell hb (h.utf.2 i hi).1, below_cell hb (h.utf.2 i hi).2⟩⟩, ?_, ?_, ?_⟩
  · obtain ⟨T, oT, R, oR, h1, h2, h3, h4, h5⟩ := h.white
    exact ⟨T, oT, R, oR, below_cell hb h1, below_cell hb h2, below_cell hb h3, below_cell hb h4, fun i hi => below_cell hb (h5 i hi)⟩
  · obtain ⟨ev, h1, h2⟩ := h.esyn
    exact ⟨ev, below_cell hb h1, h2⟩
  · obtain ⟨ev, h1, h2⟩ := h.eran
    exact ⟨ev, below_cell hb h1, h2⟩
theorem Libs.kept {a b : World} (h : Libs a) (hk : Kept (fun _ => False) a b) : Libs b := h.below (hk.below (Nat.le_refl _) (fun _ h => h.elim))
theorem Libs.tabP {w : World} (h : Libs w) : Lib.TabBelow Tryd.prog w.heap.size w "internal/strconv.uint64pow10" .u64 Lib.pow10Tab := Lib.tabBelow_of_tabIs h.pow

/-- They lie below B. -/
def LibsB (B : Nat) (w : World) : Prop := ∀ w', Below B w w' → Libs w'
theorem Libs.toB {w : World} (h : Libs w) : LibsB w.heap.size w := fun _ hb => h.below hb
theorem LibsB.on {B : Nat} {a b : World} (h : LibsB B a) (hb : Below B a b) : LibsB B b := fun _ hb' => h _ (hb.trans hb')
theorem LibsB.at {B : Nat} {w : World} (h : LibsB B w) : Libs w := h w (Below.refl _ _)
end Go.Proofs.YteaagllpkcpedaaDoor
