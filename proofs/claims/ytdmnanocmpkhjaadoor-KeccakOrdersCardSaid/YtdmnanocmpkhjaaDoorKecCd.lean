/-
  From the row's condition (keccak's three tables read as listed) to the tables that the walks ask for: without crc. Never beside CrcCard, KecCard.
-/
import Derived.Test.YtdmnanocmpkhjaaDoorKecR
import Derived.LaidSub
import Derived.Test.YtdmnanocmpkhjaaDoorArgIn
import Derived.Lib.LaidTab
import Derived.LaidMore
import Derived.MakeChecks
import Derived.ProofKit
import Derived.OpenShut
import Derived.ChangeOld
import Derived.Below
import Derived.Stop.Joined
namespace Go.Proofs.YtdmnanocmpkhjaaDoor
open Go.ChangeShapes Go.WideShapes Go.ChangeAt Go.RowKit

def laidLK : List (String × DataW Unit) := [("arbac/keccak.turns", Rows.laid_arbac_keccak_turns), ("arbac/keccak.places", Rows.laid_arbac_keccak_places), ("arbac/keccak.roundConstants", Rows.laid_arbac_keccak_roundConstants)]
def trnZ : List Int := trn.map fun n : Nat => (n : Int)
def plcZ : List Int := plc.map fun n : Nat => (n : Int)
def rcsZ : List Int := rcs.map fun n : Nat => (n : Int)
theorem laid_trn : (Rows.laid_arbac_keccak_turns : DataW Unit) = Lib.tabData .u8 trnZ := by kernel_rfl
theorem laid_plc : (Rows.laid_arbac_keccak_places : DataW Unit) = Lib.tabData .u8 plcZ := by kernel_rfl
theorem laid_rcs : (Rows.laid_arbac_keccak_roundConstants : DataW Unit) = Lib.tabData .u64 rcsZ := by kernel_rfl
theorem cut_trn : (laidLK.filter fun x => x.1 == "arbac/keccak.turns") = [("arbac/keccak.turns", Rows.laid_arbac_keccak_turns)] := by kernel_rfl
theorem cut_plc : (laidLK.filter fun x => x.1 == "arbac/keccak.places") = [("arbac/keccak.places", Rows.laid_arbac_keccak_places)] := by kernel_rfl
theorem cut_rcs : (laidLK.filter fun x => x.1 == "arbac/keccak.roundConstants") = [("arbac/keccak.roundConstants", Rows.laid_arbac_keccak_roundConstants)] := by kernel_rfl
theorem gTrn : Tryd.prog.globalNamed "arbac/keccak.turns" = some 2 := by kernel_rfl
theorem gPlc : Tryd.prog.globalNamed "arbac/keccak.places" = some 3 := by kernel_rfl
theorem gRcs : Tryd.prog.globalNamed "arbac/keccak.roundConstants" = some 1 := by kernel_rfl
theorem tTrn : (Tryd.prog.globals[2]?).map (·.type) = some 54 := by kernel_rfl
theorem tPlc : (Tryd.prog.globals[3]?).map (·.type) = some 54 := by kernel_rfl
theorem tRcs : (Tryd.prog.globals[1]?).map (·.type) = some 48 := by kernel_rfl

theorem ktab_of_laid {W : World} (h : laidMetH Tryd.prog laidLK W) : KTab W := by
  rw [MakeChecks.laidMetH_plain _ _ _ (by kernel_rfl)] at h
  have h1 := h.filter fun x => x.1 == "arbac/keccak.turns"
  have h2 := h.filter fun x => x.1 == "arbac/keccak.places"
  have h3 := h.filter fun x => x.1 == "arbac/keccak.roundConstants"
  rw [cut_trn, laid_trn] at h1
  rw [cut_plc, laid_plc] at h2
  rw [cut_rcs, laid_rcs] at h3
  have T1 := Lib.tabIs_of_head gTrn tTrn Tryd.underlying54 Tryd.underlying5 (by kernel_rfl) (by kernel_rfl) h1
  have T2 := Lib.tabIs_of_head gPlc tPlc Tryd.underlying54 Tryd.underlying5 (by kernel_rfl) (by kernel_rfl) h2
  have T3 := Lib.tabIs_of_head gRcs tRcs Tryd.underlying48 Tryd.underlying34 (by kernel_rfl) (by kernel_rfl) h3
  have c1 : ∀ i, i < 25 → W.cell? ⟨2, i, none⟩ = some (.int .u8 (trn.getD i 0 : Nat)) := fun i hi => by
    have hl : i < trn.length := hi
    rw [T1.cell gTrn i (by simpa [trnZ] using hl)]
    simp [trnZ, List.getD, hl]
  have c2 : ∀ i, i < 25 → W.cell? ⟨3, i, none⟩ = some (.int .u8 (plc.getD i 0 : Nat)) := fun i hi => by
    have hl : i < plc.length := hi
    rw [T2.cell gPlc i (by simpa [plcZ] using hl)]
    simp [plcZ, List.getD, hl]
  have c3 : ∀ i, i < 24 → W.cell? ⟨1, i, none⟩ = some (.int .u64 (rcs.getD i 0 : Nat)) := fun i hi => by
    have hl : i < rcs.length := hi
    rw [T3.cell gRcs i (by simpa [rcsZ] using hl)]
    simp [rcsZ, List.getD, hl]
  exact ⟨World.block_lt_of_cell? W _ (c1 0 (by omega)), World.block_lt_of_cell? W _ (c2 0 (by omega)), World.block_lt_of_cell? W _ (c3 0 (by omega)), c1, c2, c3⟩

theorem door_metK (os : Os) (args : Array Value) : laidMetH Tryd.prog laidLK ((World.doorLaid Tryd.prog 400 os).forCall (fun _ _ => 0) ⟨#[], args, []⟩).memory :=
  laidMetH_of_parts3 (fuel := 8) (laidMet_of_run' 8 (by kernel_rfl) (by kernel_rfl)) (by kernel_rfl) (by kernel_rfl)
theorem ownK : ownKnob Tryd.prog.godebug = none := by kernel_rfl
theorem laidOutK : laidOutB Tryd.prog = true := by kernel_rfl

set_option maxRecDepth 100000 in
/-- A slice of bytes that came in: it reads as bytes. -/
theorem bytes_in {H : Type} {enc : TypeId × Value → H} {W : World} {base : Nat} {v : Value} {d : DataW H} {p : List MemPlace} (o : Value.okWide Tryd.prog W .any base 26 v) (h : DataW.Trod enc Tryd.prog W 0 (fun _ => true) true 26 v d p) :
    ∃ a len cap xs, v = .slice a len cap ∧ InBytes W (.slice a len cap) xs := by
  obtain ⟨a, len, cap, rfl⟩ := okWide_slice Tryd.underlying26 o
  have o' := o
  obtain ⟨fuel, hf⟩ := h
  rcases open_ints Tryd.underlying26 Tryd.underlying5 (by kernel_rfl) hf with ⟨hcs, _⟩ | ⟨x, l, c, zs, hcs, _, hl, hm, hz, _, hcell, hwz⟩
  · simp [Value.cells] at hcs
    obtain ⟨rfl, rfl, rfl⟩ := hcs
    obtain ⟨xs, hx⟩ := in_bytes Tryd.underlying26 o' (zs := []) (.inl ⟨rfl, rfl, rfl, rfl⟩)
    exact ⟨_, _, _, xs, rfl, hx⟩
  · simp [Value.cells] at hcs
    obtain ⟨rfl, rfl, rfl⟩ := hcs
    obtain ⟨xs, hx⟩ := in_bytes Tryd.underlying26 o' (zs := zs) (.inr ⟨_, rfl, hl, hm, by simpa using hz, hcell, hwz⟩)
    exact ⟨_, _, _, xs, rfl, hx⟩

theorem u32_nat (a : Int) (h : (Lit.int .u32 a).wf = true) : ∃ n : Nat, a = (n : Int) ∧ n < 2 ^ 32 := by
  simp [Lit.wf, IntKind.min, IntKind.max, IntKind.signed, IntKind.bits] at h
  exact ⟨a.toNat, by omega, by omega⟩
theorem u16_nat (a : Int) (h : (Lit.int .u16 a).wf = true) : ∃ n : Nat, a = (n : Int) ∧ n < 65536 := by
  simp [Lit.wf, IntKind.min, IntKind.max, IntKind.signed, IntKind.bits] at h
  exact ⟨a.toNat, by omega, by omega⟩
theorem u8_nat (a : Int) (h : (Lit.int .u8 a).wf = true) : ∃ n : Nat, a = (n : Int) ∧ n < 256 := by
  simp [Lit.wf, IntKind.min, IntKind.max, IntKind.signed, IntKind.bits] at h
  exact ⟨a.toNat, by omega, by omega⟩
theorem i16_rng (a : Int) (h : (Lit.int .i16 a).wf = true) : -32768 ≤ a ∧ a < 32768 := by
  simp [Lit.wf, IntKind.min, IntKind.max, IntKind.signed, IntKind.bits] at h
  omega
theorem i64_rng (a : Int) (h : (Lit.int .i64 a).wf = true) : -9223372036854775808 ≤ a ∧ a < 9223372036854775808 := by
  simp [Lit.wf, IntKind.min, IntKind.max, IntKind.signed, IntKind.bits] at h
  omega
end Go.Proofs.YtdmnanocmpkhjaaDoor
