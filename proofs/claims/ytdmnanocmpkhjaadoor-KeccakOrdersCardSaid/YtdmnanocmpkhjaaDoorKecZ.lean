/-
  arbac/keccak: the methods of a nil hash; New, Len, Copy, Reset; arbaclaw03.KeccakNil returns true.
-/
import Derived.Test.YtdmnanocmpkhjaaDoorKecK
import Derived.Test.YtdmnanocmpkhjaaDoorArgIn
import Derived.ChangeKeysEq
import Derived.Laws.StructEq
namespace Go.Proofs.YtdmnanocmpkhjaaDoor
open Go.RowKit

theorem cells8 : Tryd.prog.cellsOf 5 = 1 := by kernel_rfl
theorem run_part8 (w : World) (a : List Nat) (i : Nat) (hi : i < a.length) : (part 5 (arr8 a).toArray (i * 1)).run Tryd.prog w = .ok (.int .u8 (a.getD i 0 : Nat)) w := by
  have hagg : (isAgg 5).run Tryd.prog w = .ok false w := by
    unfold isAgg
    rw [Sem.run_bind, run_underlying Tryd.underlying5 w]
    simp
  obtain ⟨i0, hi0, _, hz1, _⟩ := info_parts info_u8c
  have hv : (arr8 a).toArray[i]? = some (.int .u8 (a.getD i 0 : Nat)) := by simpa using arr8_get a i hi
  simp [part, hagg, sizeOf, typeInfo, hi0, hz1, hv]
theorem eqItems8 (w : World) (d : Nat) (a b : List Nat) : ∀ is : List Nat, (∀ i ∈ is, i < a.length ∧ i < b.length) →
    (Op.eqItems (d + 1) 5 1 (arr8 a).toArray (arr8 b).toArray is).run Tryd.prog w = .ok (is.all fun i => decide (a.getD i 0 = b.getD i 0)) w
  | [], _ => rfl
  | i :: is, h => by
    have h1 := h i (by simp)
    simp only [Op.eqItems, Sem.run_bind, run_part8 w a i h1.1, run_part8 w b i h1.2, Result.andThen_ok, run_equalIn_int w d 5 .u8 .u8 _ _ Tryd.underlying5]
    have hd : (((a.getD i 0 : Nat) : Int) == ((b.getD i 0 : Nat) : Int)) = decide (a.getD i 0 = b.getD i 0) := by
      rw [Bool.eq_iff_iff, beq_iff_eq, decide_eq_true_iff]; omega
    rw [hd, List.all_cons]
    cases decide (a.getD i 0 = b.getD i 0) with
    | false => rfl
    | true => simpa using eqItems8 w d a b is (fun j hj => h j (by simp [hj]))
set_option maxRecDepth 100000 in
/-- Two digests are compared. -/
theorem eq32 (w : World) (a b : List Nat) (ha : a.length = 32) (hb : b.length = 32) :
    (Op.equalIn 10000 27 (.agg (arr8 a).toArray) (.agg (arr8 b).toArray)).run Tryd.prog w = .ok (decide (a = b)) w := by
  obtain ⟨i0, hi0, _⟩ := info_parts info_u8c
  rw [run_equalIn_array w 9999 _ _ Tryd.underlying27 hi0, cells8, eqItems8 w 9998 a b _ (fun i hi => by rw [List.mem_range] at hi; omega)]
  congr 1
  rw [Bool.eq_iff_iff, List.all_eq_true, decide_eq_true_iff]
  refine ⟨fun h => List.ext_getElem (by omega) fun i h1 h2 => ?_, fun h => by subst h; simp⟩
  have := h i (List.mem_range.2 (by omega))
  simpa [List.getD, h1, h2] using this

def zero32 : List Value := arr8 (List.replicate 32 0)
set_option maxRecDepth 100000 in
theorem write_nil (w : World) (p : Value) (a : Option Addr) (n c : Nat) (hp : p = .slice a n c) : Calls Tryd.prog 10 #[.pointer none, p] w fun e w' => e = .returned (.tuple #[]) ∧ w = w' := by
  subst hp
  go_enter Tryd.func10, Tryd.ntmps10
  go_wp2_with fail
  refine bodyPost_ret (results_none rfl _ _ _) rfl ?_
  exact ⟨rfl, rfl⟩
set_option maxRecDepth 100000 in
set_option maxHeartbeats 800000 in
theorem hsum_nil (w : World) : Calls Tryd.prog 11 #[.pointer none] w fun e w' => e = .returned (.agg zero32.toArray) ∧ Kept (fun _ => False) w w' := by
  have R := blk_new w zero32.toArray 27 (List.replicate 32 0) (by simp [zero32])
  have z1 : ∀ j, j < zero32.length → ((w.alloc (.cells zero32.toArray 27)).cell? ⟨w.heap.size, 0 + j, none⟩).isSome = true := fun j hj => by
    rw [R.cell j (by simpa [zero32, arr8_length] using hj)]; rfl
  have z2 : ∀ j, j < zero32.length → (w.alloc (.cells zero32.toArray 27)).frozen? ⟨w.heap.size, 0 + j, none⟩ = false := fun j hj => R.free j (by simpa [zero32, arr8_length] using hj)
  have hsd : (Tryd.prog.info? 27).map (·.size) = some zero32.length := by rw [zero32, arr8_length, List.length_replicate]; exact size32
  have hfin : ∀ j v, zero32[j]? = some v → ((w.alloc (.cells zero32.toArray 27)).setCells w.heap.size 0 zero32).cell? ⟨w.heap.size, 0 + j, none⟩ = some v := (R.setCells (t := List.replicate 32 0) rfl).get
  have K10 : Kept (fun _ => False) w ((w.alloc (.cells zero32.toArray 27)).setCells w.heap.size 0 zero32) := (Kept.alloc (fun _ => False) _ _).trans (Kept.setCells w.heap.size zero32 0 _) (T := fun _ => False) (fun _ _ h => h) (fun i hi e => by omega)
  have ho : ∀ v ∈ zero32, v.oneCell' = true := arr8_one _
  have Z1 := Lib.hid z1; have Z2 := Lib.hid z2; have HSD := Lib.hid hsd; have HF := Lib.hid hfin; have HK := Lib.hid K10; have HO := Lib.hid ho
  clear R z1 z2 hsd hfin K10 ho
  go_enter Tryd.func11, Tryd.ntmps11
  go_wp2_with (first | (refine wpList_store_at rfl 27 _ _ rfl w.heap.size 0 zero32 rfl rfl Z1.out Z2.out HO.out HSD.out ?_))
  refine bodyPost_ret_by (v := .agg zero32.toArray) ?_ ?_ ?_
  · exact results_cell_at Tryd.results11 _ _ w.heap.size zero32 _ rfl HF.out Tryd.underlying27 rfl HSD.out
  · rfl
  · exact ⟨rfl, HK.out⟩

end Go.Proofs.YtdmnanocmpkhjaaDoor
