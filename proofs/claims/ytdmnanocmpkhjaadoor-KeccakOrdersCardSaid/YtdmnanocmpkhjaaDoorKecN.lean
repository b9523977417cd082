/-
  arbac/keccak: Sum, New, Len, Copy, Reset.
-/
import Derived.Test.YtdmnanocmpkhjaaDoorKecS
namespace Go.Proofs.YtdmnanocmpkhjaaDoor
open Go.RowKit

def hash0 : List Value := arr (List.replicate 25 0) ++ arr8 (List.replicate 136 0) ++ [.int .u64 0]
theorem hash_new (w : World) (cs : Array Value) (T : TypeId) (hcs : cs.toList = hash0) : HashAt (w.alloc (.cells cs T)) w.heap.size 0 [] := by
  have hc : ∀ i, (w.alloc (.cells cs T)).cell? ⟨w.heap.size, i, none⟩ = hash0[i]? := fun i => by
    rw [cell_of_row _ w.heap.size i cs T (0, 0) (heap_alloc_new w _), ← Array.getElem?_toList, hcs]
  have hf : ∀ i, (w.alloc (.cells cs T)).frozen? ⟨w.heap.size, i, none⟩ = false := fun i => World.frozen?_alloc_new _ _ _ _
  refine ⟨⟨fun i hi => ?_, fun i _ => hf _⟩, ⟨List.replicate 136 0, by simp, fun x hx => by have := List.eq_of_mem_replicate hx; omega, ⟨fun i hi => ?_, fun i _ => hf _⟩, rfl⟩, ?_, hf _, by simp⟩
  · have hi' : i < 25 := by simpa [hsh] using hi
    rw [hc, hash0, List.append_assoc, List.getElem?_append_left (by rw [arr_length, List.length_replicate]; omega), Nat.zero_add, arr_get _ _ (by rw [List.length_replicate]; omega)]
    rfl
  · have hi' : i < 136 := by rw [List.length_replicate] at hi; exact hi
    rw [hc, hash0, List.append_assoc, List.getElem?_append_right (by rw [arr_length, List.length_replicate]; omega), arr_length, List.length_replicate, show 0 + 25 + i - 25 = i by omega,
      List.getElem?_append_left (by rw [arr8_length, List.length_replicate]; omega), arr8_get _ _ (by rw [List.length_replicate]; omega)]
  · rw [hc]; rfl

set_option maxRecDepth 100000 in
set_option maxHeartbeats 1600000 in
theorem ksum_any (w : World) (p : Value) (xs : List Nat) (hp : Reads w p xs) (hb : ∀ x ∈ xs, x < 256) (hT : KTab w) (hle : xs.length < 2 ^ 62) :
    Calls Tryd.prog 7 #[p] w fun e w' => e = .returned (.agg (arr8 (digS xs)).toArray) ∧ Kept (fun _ => False) w w' := by
  have hlt := hp.lt
  have HT := Lib.hid hT
  obtain ⟨wA, hwA⟩ : ∃ wA, wA = w.alloc (.cells (arr8 (List.replicate 32 0)).toArray 27) := ⟨_, rfl⟩
  have szA : wA.heap.size = w.heap.size + 1 := by rw [hwA]; simp
  have hh := hash_new wA hash0.toArray 39 (by simp)
  rw [szA] at hh
  have kB : Kept (fun _ => False) wA (wA.alloc (.cells hash0.toArray 39)) := Kept.alloc _ _ _
  have KB : Kept (fun _ => False) w (wA.alloc (.cells hash0.toArray 39)) := Kept.then (by rw [hwA]; exact Kept.alloc _ _ _) kB
  have R0 : Blk (wA.alloc (.cells hash0.toArray 39)) w.heap.size 0 (List.replicate 32 0) := by
    refine Blk.kept (S := fun _ => False) (w := wA) ?_ (Kept.alloc _ _ _) (by omega) (fun h => h)
    rw [hwA]
    exact blk_new w (arr8 (List.replicate 32 0)).toArray 27 (List.replicate 32 0) (by simp)
  have szB : (wA.alloc (.cells hash0.toArray 39)).heap.size = w.heap.size + 2 := by simp [szA]
  have PB := hp.kept KB (fun _ _ h => h)
  have TB := hT.kept KB (fun _ _ h => h)
  rw [hwA] at hh KB R0 szB PB TB
  have HH := Lib.hid hh; have HKB := Lib.hid KB; have HR0 := Lib.hid R0; have HSZ := Lib.hid szB; have HPB := Lib.hid PB; have HTB := Lib.hid TB; have HB := Lib.hid hb
  obtain ⟨a, c, hf⟩ := hp.form
  clear hp hT hh KB R0 szB PB TB hb kB hwA szA
  subst hf
  have hz162 : ∀ W : World, Sem.run Tryd.prog (zeroValue 39) W = .ok (.agg hash0.toArray) W := fun _ => by kernel_rfl
  go_enter Tryd.func7, Tryd.ntmps7
  go_wp2_with fail
  refine (write_any _ (w.heap.size + 1) 0 [] _ xs HH.out (by rw [HSZ.out]; omega) HTB.out (HT.out.fresh (by omega)) HPB.out HB.out (fun k hk e => by have := hlt k hk; omega) (by simpa using hle)).mono ?_
  rintro e w2 ⟨rfl, hh2, k2⟩
  rw [List.nil_append] at hh2
  have K2 := HKB.out.trans k2.kept (T := fun _ => False) (fun _ _ h => h) (fun i hi e => by omega)
  have R2 := HR0.out.kept k2.kept (by rw [HSZ.out]; omega) (by omega)
  have N2 : w.heap.size + 1 < w2.heap.size := Nat.lt_of_lt_of_le (by rw [HSZ.out]; omega) k2.kept.size
  have HH2 := Lib.hid hh2; have HK2 := Lib.hid K2; have HR2 := Lib.hid R2
  clear hh2 K2 R2 k2 HH HKB HR0 HSZ HPB HTB
  have HT2 := Lib.hid (HT.out.kept HK2.out (fun _ _ h => h))
  go_wp2_with fail
  refine (hsum_any w2 (w.heap.size + 1) 0 xs HH2.out N2 HT2.out hle).mono ?_
  rintro e w9 ⟨rfl, k9⟩
  have R9 := HR2.out.kept k9 (by omega) (fun h => h)
  have K9 := HK2.out.then k9
  obtain ⟨dd, hdd⟩ : ∃ dd, dd = digS xs := ⟨_, rfl⟩
  have hdl : dd.length = 32 := by rw [hdd]; exact dig_length _
  rw [← hdd]
  obtain ⟨ds, hds⟩ : ∃ ds, ds = arr8 dd := ⟨_, rfl⟩
  have z1 : ∀ j, j < ds.length → (w9.cell? ⟨w.heap.size, 0 + j, none⟩).isSome = true := fun j hj => by
    rw [hds, arr8_length, hdl] at hj; rw [R9.cell j (by simpa using hj)]; rfl
  have z2 : ∀ j, j < ds.length → w9.frozen? ⟨w.heap.size, 0 + j, none⟩ = false := fun j hj => by
    rw [hds, arr8_length, hdl] at hj; exact R9.free j (by simpa using hj)
  have hsd : (Tryd.prog.info? 27).map (·.size) = some ds.length := by rw [hds, arr8_length, hdl]; exact size32
  have hfin := (R9.setCells (t := dd) (by simp [hdl])).get
  have K10 := K9.trans (Kept.setCells w.heap.size ds 0 w9) (T := fun _ => False) (fun _ _ h => h) (fun i hi e => by omega)
  have ho : ∀ v ∈ ds, v.oneCell' = true := by rw [hds]; exact arr8_one dd
  rw [← hds] at hfin
  rw [← hds]
  have Z1 := Lib.hid z1; have Z2 := Lib.hid z2; have HSD := Lib.hid hsd; have HF := Lib.hid hfin; have HK10 := Lib.hid K10; have HO2 := Lib.hid ho
  have HDS := Lib.hid hds; have HDD := Lib.hid hdd
  clear z1 z2 hsd hfin K10 ho hds hdd R9 K9 k9 HH2 HK2 HR2
  go_wp2_with (first | (refine wpList_store_at rfl 27 _ _ rfl w.heap.size 0 ds rfl rfl Z1.out Z2.out HO2.out HSD.out ?_))
  refine bodyPost_ret_by (v := .agg ds.toArray) ?_ ?_ ?_
  · exact results_cell_at Tryd.results7 _ _ w.heap.size ds _ rfl HF.out Tryd.underlying27 rfl HSD.out
  · rfl
  · exact ⟨by first | rfl | rw [HDS.out, HDD.out], HK10.out⟩
end Go.Proofs.YtdmnanocmpkhjaaDoor
