/-
  What Parse and Text say of each other; a value of 32 bytes in a block of its own.
-/
import Derived.Test.YtnjmffmdlaobdabDoorKecD
namespace Go.Proofs.YtnjmffmdlaobdabDoor
open Go.RowKit

theorem hx_dv (c : Nat) (h : 0 ≤ dv c) : hx (dv c).toNat = c := by
  have h2 := (dg_dv c).1.1 h
  rw [(dg_dv c).2 h2]
  unfold dg at h2 ⊢
  by_cases h1 : 48 ≤ c ∧ c ≤ 57
  · rw [if_pos h1]; unfold hx; rw [if_pos (by omega)]; omega
  · rw [if_neg h1] at h2 ⊢
    by_cases h3 : 97 ≤ c ∧ c ≤ 102
    · rw [if_pos h3]; unfold hx; rw [if_neg (by omega)]; omega
    · rw [if_neg h3] at h2; omega
theorem tex_par (ss : List Nat) (h64 : ss.length = 64) (hok : ∀ i, i < 32 → pOk ss i) : texL (parV ss) = ss := by
  have hl : (texL (parV ss)).length = 64 := by rw [texL_length, parV_length]
  refine List.ext_getElem (by omega) fun j h1 h2 => ?_
  have hj : j < 64 := by omega
  have hi : j / 2 < 32 := by omega
  have hp := hok (j / 2) hi
  have ht := texL_at (parV ss) (j / 2) (by rw [parV_length]; exact hi)
  rw [parV_at ss _ hi] at ht
  have b1 := dv_lt (ss.getD (2 * (j / 2)) 0)
  have b2 := dv_lt (ss.getD (2 * (j / 2) + 1) 0)
  have e1 : pV ss (j / 2) / 16 = (dv (ss.getD (2 * (j / 2)) 0)).toNat := by unfold pV; have := hp.2; omega
  have e2 : pV ss (j / 2) % 16 = (dv (ss.getD (2 * (j / 2) + 1) 0)).toNat := by unfold pV; have := hp.2; omega
  rw [e1, e2, hx_dv _ hp.1, hx_dv _ hp.2] at ht
  have key : (texL (parV ss)).getD j 0 = ss.getD j 0 := by
    rcases Nat.mod_two_eq_zero_or_one j with h | h
    · have := ht.1; rwa [show 2 * (j / 2) = j by omega] at this
    · have := ht.2; rwa [show 2 * (j / 2) + 1 = j by omega] at this
  simpa [List.getD, h1, h2] using key
theorem str_list (s : ByteArray) : ∃ ss : List Nat, s = strN ss ∧ ∀ x ∈ ss, x < 256 := by
  refine ⟨s.data.toList.map UInt8.toNat, ?_, fun x hx => ?_⟩
  · apply ByteArray.ext
    apply Array.ext'
    show _ = (strOfNums _).data.toList
    rw [strOfNums_data, List.map_map, List.map_map]
    conv => lhs; rw [← List.map_id s.data.toList]
    refine List.map_congr_left fun b _ => ?_
    simp
  · simp only [List.mem_map] at hx
    obtain ⟨b, _, rfl⟩ := hx
    exact b.toNat_lt

/-- A value of 32 bytes, stored in a block of its own. -/
structure In32 (T : TypeId) (x : List Nat) (w2 : World) : Prop where
  z1 : ∀ j, j < (arr8 x).length → ((w2.alloc (.cells zero32.toArray T)).cell? ⟨w2.heap.size, 0 + j, none⟩).isSome = true
  z2 : ∀ j, j < (arr8 x).length → (w2.alloc (.cells zero32.toArray T)).frozen? ⟨w2.heap.size, 0 + j, none⟩ = false
  one : ∀ v ∈ arr8 x, v.oneCell' = true
  size : (Tryd.prog.info? T).map (·.size) = some (arr8 x).length
  blk : Blk ((w2.alloc (.cells zero32.toArray T)).setCells w2.heap.size 0 (arr8 x)) w2.heap.size 0 x
  kept : Kept (fun _ => False) w2 ((w2.alloc (.cells zero32.toArray T)).setCells w2.heap.size 0 (arr8 x))
  lt : w2.heap.size < ((w2.alloc (.cells zero32.toArray T)).setCells w2.heap.size 0 (arr8 x)).heap.size
theorem in32 (T : TypeId) (hT : (Tryd.prog.info? T).map (·.size) = some 32) (x : List Nat) (w2 : World) (hx : x.length = 32) : In32 T x w2 := by
  have ZL := blk_new w2 zero32.toArray T (List.replicate 32 0) (by simp [zero32])
  refine ⟨fun j hj => ?_, fun j hj => ?_, arr8_one x, ?_, ZL.setCells (by simp [hx]), (Kept.alloc (fun _ => False) _ _).trans (Kept.setCells _ _ _ _) (fun _ _ h => h) (fun i hi e => by omega),
    Nat.lt_of_lt_of_le (by simp) (Kept.setCells w2.heap.size (arr8 x) 0 (w2.alloc (.cells zero32.toArray T))).size⟩
  · rw [arr8_length, hx] at hj; rw [ZL.cell j (by simpa using hj)]; rfl
  · rw [arr8_length, hx] at hj; exact ZL.free j (by simpa using hj)
  · rw [arr8_length, hx]; exact hT

end Go.Proofs.YtnjmffmdlaobdabDoor
