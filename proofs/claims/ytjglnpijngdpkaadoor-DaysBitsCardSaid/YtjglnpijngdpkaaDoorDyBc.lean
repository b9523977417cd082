import Derived.Test.YtjglnpijngdpkaaDoorDyCard
import Derived.Test.YtjglnpijngdpkaaDoorGE
/-
  From the rows' condition to the table that the walks of bits ask for, in days' seat.
-/
namespace Go.Proofs.YtjglnpijngdpkaaDoor
open Go.ChangeShapes Go.WideShapes Go.ChangeAt Go.RowKit
set_option maxRecDepth 100000

def tabZ : List Int := Lib.deBruijn64tab.map fun n : Nat => (n : Int)
theorem d_tz : (Rows.laid_math_bits_deBruijn64tab : DataW Unit) = Lib.tabData .u8 tabZ := by kernel_rfl
theorem gTz : Tryd.prog.globalNamed "math/bits.deBruijn64tab" = some 0 := by kernel_rfl
theorem tz_of_laid {W : World} (h : laidMetH Tryd.prog laidB W) : Tz W := by
  rw [MakeChecks.laidMetH_plain _ _ _ (by kernel_rfl)] at h
  have r1 : Lib.VarReads Tryd.prog W "math/bits.deBruijn64tab" (Lib.tabData .u8 tabZ) := d_tz ▸ Lib.laidMet.reads h (.tail _ (.head _))
  have t1 := tabIs_of_reads gTz (t := 111) (by kernel_rfl) Tryd.underlying111 Tryd.underlying5 (by kernel_rfl) (by kernel_rfl) r1
  have hl : tabZ.length = 64 := by kernel_rfl
  have hl2 : Lib.deBruijn64tab.length = 64 := by kernel_rfl
  have hc : ∀ i, i < 64 → W.cell? ⟨0, i, none⟩ = some (.int .u8 (Lib.deBruijn64tab.getD i 0 : Nat)) := fun i hi => by
    rw [t1.cell gTz i (by omega)]
    have hi2 : i < Lib.deBruijn64tab.length := by omega
    simp [tabZ, List.getD, hi2]
  exact ⟨World.block_lt_of_cell? W _ (hc 0 (by omega)), fun j hj => hc j (by omega)⟩
end Go.Proofs.YtjglnpijngdpkaaDoor
