import Derived.Test.YtjglnpijngdpkaaGreatDoorDyLy
import Derived.Test.YtjglnpijngdpkaaGreatDoorGK
import Derived.Test.YtjglnpijngdpkaaGreatDoorDyAw
import Derived.Test.YtjglnpijngdpkaaGreatDoorRows
import Derived.Test.YtjglnpijngdpkaaGreatDoorArgIn
import Derived.Lib.LaidTab
import Derived.Lib.LaidU8
import Derived.Lay
import Derived.LaidMore
import Derived.LaidLaws
import Derived.MakeChecks
import Derived.ProofKit
import Derived.OpenShut
import Derived.ChangeOld
import Derived.Below
import Derived.Stop.Joined
/-
  From the rows' condition (the library's tables read as listed) to what the walk of days' encodings asks for.
-/
namespace Go.Proofs.YtjglnpijngdpkaaGreatDoor
open Go.ChangeShapes Go.WideShapes Go.ChangeAt Go.RowKit
set_option maxRecDepth 100000

def laidB : List (String × DataW Unit) := [("math/bits.deBruijn32tab", Rows.laid_math_bits_deBruijn32tab), ("math/bits.deBruijn64tab", Rows.laid_math_bits_deBruijn64tab), ("internal/strconv.uint64pow10", Rows.laid_internal_strconv_uint64pow10), ("unicode/utf8.acceptRanges", Rows.laid_unicode_utf8_acceptRanges), ("strconv.ErrRange", Rows.laid_strconv_ErrRange), ("strconv.ErrSyntax", Rows.laid_strconv_ErrSyntax), ("arbac/keccak.turns", Rows.laid_arbac_keccak_turns), ("arbac/keccak.places", Rows.laid_arbac_keccak_places), ("arbac/keccak.roundConstants", Rows.laid_arbac_keccak_roundConstants), ("unicode/utf8.first", Rows.laid_unicode_utf8_first)]
theorem d_pow : (Rows.laid_internal_strconv_uint64pow10 : DataW Unit) = Lib.tabData .u64 Lib.pow10Tab := by kernel_rfl

theorem err_of_reads {P : Program} {W : World} {name nm : String} {d : DataW Unit} {g : Nat} {ti : TypeId} {ms : Array (String × TypeId)}
    (hg : P.globalNamed name = some g) (hty : (P.globals[g]?).map (·.type) = some ti) (hi : P.underlying ti = some (.interface ms)) (h : Lib.VarReads P W name (.iface nm d)) :
    ∃ ev, W.cell? ⟨g, 0, none⟩ = some ev ∧ (ev = .nilIface ∨ ∃ te pe, ev = .iface te pe) := by
  obtain ⟨g', t', cs, fuel, p, hg', ht', hvar, hd⟩ := h
  obtain rfl := Option.some.inj (hg.symm.trans hg')
  obtain rfl := Option.some.inj (hty.symm.trans ht')
  obtain ⟨f1, u, v, hcs, _, _⟩ := iface_of_trod hi hd
  have := World.var?_cell hg hvar 0
  rw [← Array.getElem?_toList, hcs] at this
  exact ⟨_, this, Or.inr ⟨u, v, rfl⟩⟩
theorem tabIs_of_reads {P : Program} {W : World} {name : String} {k : IntKind} {zs : List Int} {g : Nat} {t e : TypeId} {n : Nat}
    (hg : P.globalNamed name = some g) (hty : (P.globals[g]?).map (·.type) = some t) (ht : P.underlying t = some (.array n e)) (he : P.underlying e = some (.int k)) (hce : P.cellsOf e = 1) (hct : P.cellsOf t = n)
    (h : Lib.VarReads P W name (Lib.tabData k zs)) : Lib.TabIs P W name k zs := by
  obtain ⟨g', t', cs, fuel, p, hg', ht', hvar, hd⟩ := h
  obtain rfl := Option.some.inj (hg.symm.trans hg')
  obtain rfl := Option.some.inj (hty.symm.trans ht')
  unfold Lib.TabIs
  rw [hvar, ← Lib.cells_of_tab ht he hce hct hd]

theorem libD_of_laid {W : World} (h : laidMetH Tryz.prog laidB W) : LibD W := by
  rw [MakeChecks.laidMetH_plain _ _ _ (by kernel_rfl)] at h
  have r2 : Lib.VarReads Tryz.prog W "internal/strconv.uint64pow10" (Lib.tabData .u64 Lib.pow10Tab) := d_pow ▸ Lib.laidMet.reads h (.tail _ (.tail _ (.head _)))
  have r4 := Lib.laidMet.reads h (n := "strconv.ErrRange") (d := Rows.laid_strconv_ErrRange) (.tail _ (.tail _ (.tail _ (.tail _ (.head _)))))
  have r5 := Lib.laidMet.reads h (n := "strconv.ErrSyntax") (d := Rows.laid_strconv_ErrSyntax) (.tail _ (.tail _ (.tail _ (.tail _ (.tail _ (.head _))))))
  refine ⟨?_, ?_, ?_⟩
  · exact tabIs_of_reads (g := 6) (by kernel_rfl) (t := 181) (by kernel_rfl) Tryz.underlying181 Tryz.underlying45 (by kernel_rfl) (by kernel_rfl) r2
  · exact err_of_reads (by kernel_rfl) (by kernel_rfl) Tryz.underlying107 r5
  · exact err_of_reads (by kernel_rfl) (by kernel_rfl) Tryz.underlying107 r4

def trnZ : List Int := trn.map fun n : Nat => (n : Int)
def plcZ : List Int := plc.map fun n : Nat => (n : Int)
def rcsZ : List Int := rcs.map fun n : Nat => (n : Int)
theorem laid_trn : (Rows.laid_arbac_keccak_turns : DataW Unit) = Lib.tabData .u8 trnZ := by kernel_rfl
theorem laid_plc : (Rows.laid_arbac_keccak_places : DataW Unit) = Lib.tabData .u8 plcZ := by kernel_rfl
theorem laid_rcs : (Rows.laid_arbac_keccak_roundConstants : DataW Unit) = Lib.tabData .u64 rcsZ := by kernel_rfl
theorem gTrn : Tryz.prog.globalNamed "arbac/keccak.turns" = some 7 := by kernel_rfl
theorem gPlc : Tryz.prog.globalNamed "arbac/keccak.places" = some 8 := by kernel_rfl
theorem gRcs : Tryz.prog.globalNamed "arbac/keccak.roundConstants" = some 5 := by kernel_rfl
theorem tTrn : (Tryz.prog.globals[7]?).map (·.type) = some 192 := by kernel_rfl
theorem tPlc : (Tryz.prog.globals[8]?).map (·.type) = some 192 := by kernel_rfl
theorem tRcs : (Tryz.prog.globals[5]?).map (·.type) = some 176 := by kernel_rfl
theorem ktab_of_laid {W : World} (h : laidMetH Tryz.prog laidB W) : KTab W := by
  rw [MakeChecks.laidMetH_plain _ _ _ (by kernel_rfl)] at h
  have r1 : Lib.VarReads Tryz.prog W "arbac/keccak.turns" (Lib.tabData .u8 trnZ) := laid_trn ▸ Lib.laidMet.reads h (.tail _ (.tail _ (.tail _ (.tail _ (.tail _ (.tail _ (.head _)))))))
  have r2 : Lib.VarReads Tryz.prog W "arbac/keccak.places" (Lib.tabData .u8 plcZ) := laid_plc ▸ Lib.laidMet.reads h (.tail _ (.tail _ (.tail _ (.tail _ (.tail _ (.tail _ (.tail _ (.head _))))))))
  have r3 : Lib.VarReads Tryz.prog W "arbac/keccak.roundConstants" (Lib.tabData .u64 rcsZ) := laid_rcs ▸ Lib.laidMet.reads h (.tail _ (.tail _ (.tail _ (.tail _ (.tail _ (.tail _ (.tail _ (.tail _ (.head _)))))))))
  have T1 := tabIs_of_reads gTrn tTrn Tryz.underlying192 Tryz.underlying5 (by kernel_rfl) (by kernel_rfl) r1
  have T2 := tabIs_of_reads gPlc tPlc Tryz.underlying192 Tryz.underlying5 (by kernel_rfl) (by kernel_rfl) r2
  have T3 := tabIs_of_reads gRcs tRcs Tryz.underlying176 Tryz.underlying45 (by kernel_rfl) (by kernel_rfl) r3
  have c1 : ∀ i, i < 25 → W.cell? ⟨7, i, none⟩ = some (.int .u8 (trn.getD i 0 : Nat)) := fun i hi => by
    have hl : i < trn.length := hi
    rw [T1.cell gTrn i (by simpa [trnZ] using hl)]
    simp [trnZ, List.getD, hl]
  have c2 : ∀ i, i < 25 → W.cell? ⟨8, i, none⟩ = some (.int .u8 (plc.getD i 0 : Nat)) := fun i hi => by
    have hl : i < plc.length := hi
    rw [T2.cell gPlc i (by simpa [plcZ] using hl)]
    simp [plcZ, List.getD, hl]
  have c3 : ∀ i, i < 24 → W.cell? ⟨5, i, none⟩ = some (.int .u64 (rcs.getD i 0 : Nat)) := fun i hi => by
    have hl : i < rcs.length := hi
    rw [T3.cell gRcs i (by simpa [rcsZ] using hl)]
    simp [rcsZ, List.getD, hl]
  exact ⟨World.block_lt_of_cell? W _ (c1 0 (by omega)), World.block_lt_of_cell? W _ (c2 0 (by omega)), World.block_lt_of_cell? W _ (c3 0 (by omega)), c1, c2, c3⟩

/-- A heap in which the variables are laid as listed meets the condition. -/
theorem door_metB (os : Os) (args : Array Value) : laidMetH Tryz.prog laidB ((World.laidAll Tryz.prog os laidB).forCall (fun _ _ => 0) ⟨#[], args, []⟩).memory := by
  rw [MakeChecks.laidMetH_plain _ _ _ (by kernel_rfl)]
  exact laidMet_laidAll _ (by kernel_rfl) (by kernel_rfl)

theorem ownK : ownKnob Tryz.prog.godebug = none := by kernel_rfl
theorem laidOutK : laidOutB Tryz.prog = true := by kernel_rfl
end Go.Proofs.YtjglnpijngdpkaaGreatDoor
