import Derived.Test.YtjglnpijngdpkaaGreatDoorKecG
import Derived.ChangeKeysEq
import Derived.Laws.StructEq
/-
  Two digests are compared. (The same as KecEq, over KecG: without keccak's Sponge.)
-/
namespace Go.Proofs.YtjglnpijngdpkaaGreatDoor
open Go.RowKit

theorem info_u8e : (Tryz.prog.info? 5).map (fun i => (i.zero, i.size, i.bytes)) = some (some (.int .u8 0), 1, 1) := by kernel_rfl
theorem digS_len (xs : List Nat) : (digS xs).length = 32 := dig_length _
theorem cells8 : Tryz.prog.cellsOf 5 = 1 := by kernel_rfl
theorem run_part8 (w : World) (a : List Nat) (i : Nat) (hi : i < a.length) : (part 5 (arr8 a).toArray (i * 1)).run Tryz.prog w = .ok (.int .u8 (a.getD i 0 : Nat)) w := by
  have hagg : (isAgg 5).run Tryz.prog w = .ok false w := by
    unfold isAgg
    rw [Sem.run_bind, run_underlying Tryz.underlying5 w]
    simp
  obtain ⟨i0, hi0, _, hz1, _⟩ := info_parts info_u8e
  have hv : (arr8 a).toArray[i]? = some (.int .u8 (a.getD i 0 : Nat)) := by simpa using arr8_get a i hi
  simp [part, hagg, sizeOf, typeInfo, hi0, hz1, hv]
theorem eqItems8 (w : World) (d : Nat) (a b : List Nat) : ∀ is : List Nat, (∀ i ∈ is, i < a.length ∧ i < b.length) →
    (Op.eqItems (d + 1) 5 1 (arr8 a).toArray (arr8 b).toArray is).run Tryz.prog w = .ok (is.all fun i => decide (a.getD i 0 = b.getD i 0)) w
  | [], _ => rfl
  | i :: is, h => by
    have h1 := h i (by simp)
    simp only [Op.eqItems, Sem.run_bind, run_part8 w a i h1.1, run_part8 w b i h1.2, Result.andThen_ok, run_equalIn_int w d 5 .u8 .u8 _ _ Tryz.underlying5]
    have hd : (((a.getD i 0 : Nat) : Int) == ((b.getD i 0 : Nat) : Int)) = decide (a.getD i 0 = b.getD i 0) := by
      rw [Bool.eq_iff_iff, beq_iff_eq, decide_eq_true_iff]; omega
    rw [hd, List.all_cons]
    cases decide (a.getD i 0 = b.getD i 0) with
    | false => rfl
    | true => simpa using eqItems8 w d a b is (fun j hj => h j (by simp [hj]))
set_option maxRecDepth 100000 in
/-- Two digests are compared. -/
theorem eq32 (w : World) (a b : List Nat) (ha : a.length = 32) (hb : b.length = 32) :
    (Op.equalIn 10000 59 (.agg (arr8 a).toArray) (.agg (arr8 b).toArray)).run Tryz.prog w = .ok (decide (a = b)) w := by
  obtain ⟨i0, hi0, _⟩ := info_parts info_u8e
  rw [run_equalIn_array w 9999 _ _ Tryz.underlying59 hi0, cells8, eqItems8 w 9998 a b _ (fun i hi => by rw [List.mem_range] at hi; omega)]
  congr 1
  rw [Bool.eq_iff_iff, List.all_eq_true, decide_eq_true_iff]
  refine ⟨fun h => List.ext_getElem (by omega) fun i h1 h2 => ?_, fun h => by subst h; simp⟩
  have := h i (List.mem_range.2 (by omega))
  simpa [List.getD, h1, h2] using this

theorem eqSame (w : World) (xs : List Nat) : (Op.equalIn 10000 59 (.agg (arr8 (digS xs)).toArray) (.agg (arr8 (digS xs)).toArray)).run Tryz.prog w = .ok true w := by
  rw [eq32 w _ _ (digS_len xs) (digS_len xs), decide_eq_true rfl]
end Go.Proofs.YtjglnpijngdpkaaGreatDoor
