/-
  arbac/keccak: New, Len, Copy, Reset of a hash that is there; arbaclaw03.short.
-/
import Derived.Test.YtnjmffmdlaobdabDoorKecZ
namespace Go.Proofs.YtnjmffmdlaobdabDoor
open Go.RowKit

def hcells (st blk : List Nat) (n : Nat) : List Value := arr st ++ arr8 blk ++ [.int .u64 (n : Int)]
theorem hcells_length (st blk : List Nat) (n : Nat) (h1 : st.length = 25) (h2 : blk.length = 136) : (hcells st blk n).length = 162 := by simp [hcells, arr_length, arr8_length, h1, h2]
theorem hcells_one (st blk : List Nat) (n : Nat) : ∀ v ∈ hcells st blk n, v.oneCell' = true := by
  intro v hv
  simp only [hcells, List.mem_append, List.mem_singleton] at hv
  rcases hv with (hv | hv) | rfl
  · exact arr_one _ v hv
  · exact arr8_one _ v hv
  · rfl
theorem hcells_st (st blk : List Nat) (n i : Nat) (hi : i < st.length) : (hcells st blk n)[i]? = some (.int .u64 (ln st i : Nat)) := by
  rw [hcells, List.append_assoc, List.getElem?_append_left (by rw [arr_length]; exact hi), arr_get _ _ hi]
theorem hcells_blk (st blk : List Nat) (n i : Nat) (h1 : st.length = 25) (hi : i < blk.length) : (hcells st blk n)[25 + i]? = some (.int .u8 (blk.getD i 0 : Nat)) := by
  rw [hcells, List.append_assoc, List.getElem?_append_right (by rw [arr_length]; omega), arr_length, h1, show 25 + i - 25 = i by omega, List.getElem?_append_left (by rw [arr8_length]; exact hi), arr8_get _ _ hi]
theorem hcells_len (st blk : List Nat) (n : Nat) (h1 : st.length = 25) (h2 : blk.length = 136) : (hcells st blk n)[161]? = some (.int .u64 (n : Int)) := by
  rw [hcells, List.getElem?_append_right (by simp [arr_length, arr8_length, h1, h2])]
  simp [arr_length, arr8_length, h1, h2]

theorem hash_of_cells {w : World} {g off : Nat} {xs blk : List Nat} (h2 : blk.length = 136) (hb : ∀ x ∈ blk, x < 256) (ht : blk.take (hsh xs).2.length = (hsh xs).2) (hx : ∀ x ∈ xs, x < 256)
    (hc : ∀ j v, (hcells (hsh xs).1 blk xs.length)[j]? = some v → w.cell? ⟨g, off + j, none⟩ = some v) (hf : ∀ j, j < 162 → w.frozen? ⟨g, off + j, none⟩ = false) : HashAt w g off xs := by
  have h1 := (hsh_ok hx).l1
  exact ⟨⟨fun i hi => hc i _ (hcells_st _ _ _ i hi), fun i hi => hf i (by omega)⟩,
    ⟨blk, h2, hb, ⟨fun i hi => by have := hc (25 + i) _ (hcells_blk _ _ _ i h1 hi); rwa [← Nat.add_assoc] at this, fun i hi => by have := hf (25 + i) (by omega); rwa [← Nat.add_assoc] at this⟩, ht⟩,
    hc 161 _ (hcells_len _ _ _ h1 h2), hf 161 (by omega), hx⟩
theorem HashAt.cells {w : World} {g off : Nat} {xs : List Nat} (h : HashAt w g off xs) : ∃ blk, blk.length = 136 ∧ (∀ x ∈ blk, x < 256) ∧ blk.take (hsh xs).2.length = (hsh xs).2 ∧
    (∀ j v, (hcells (hsh xs).1 blk xs.length)[j]? = some v → w.cell? ⟨g, off + j, none⟩ = some v) ∧ (∀ j, j < 162 → w.frozen? ⟨g, off + j, none⟩ = false) := by
  obtain ⟨blk, h2, hb, hB, ht⟩ := h.blk
  have h1 := (hsh_ok h.byte).l1
  have hL := hcells_length (hsh xs).1 blk xs.length h1 h2
  refine ⟨blk, h2, hb, ht, fun j v hv => ?_, fun j hj => ?_⟩
  · have hj := (List.getElem?_eq_some_iff.1 hv).1
    rw [hL] at hj
    by_cases h3 : j < 25
    · rw [hcells_st _ _ _ j (by omega)] at hv
      rw [h.st.cell j (by omega), ← hv]; rfl
    · by_cases h4 : j < 161
      · obtain ⟨i, rfl⟩ : ∃ i, j = 25 + i := ⟨j - 25, by omega⟩
        rw [hcells_blk _ _ _ i h1 (by omega)] at hv
        rw [← Nat.add_assoc, hB.cell i (by omega), hv]
      · obtain rfl : j = 161 := by omega
        rw [hcells_len _ _ _ h1 h2] at hv
        rw [h.len, hv]
  · by_cases h3 : j < 25
    · exact h.st.free j (by omega)
    · by_cases h4 : j < 161
      · obtain ⟨i, rfl⟩ : ∃ i, j = 25 + i := ⟨j - 25, by omega⟩
        rw [← Nat.add_assoc]; exact hB.free i (by omega)
      · obtain rfl : j = 161 := by omega
        exact h.free
/-- Behind a store of all its cells. -/
theorem hash_stored {w : World} {g off : Nat} {xs blk : List Nat} (h2 : blk.length = 136) (hb : ∀ x ∈ blk, x < 256) (ht : blk.take (hsh xs).2.length = (hsh xs).2) (hx : ∀ x ∈ xs, x < 256)
    (hc : ∀ j, j < 162 → (w.cell? ⟨g, off + j, none⟩).isSome = true) (hf : ∀ j, j < 162 → w.frozen? ⟨g, off + j, none⟩ = false) : HashAt (w.setCells g off (hcells (hsh xs).1 blk xs.length)) g off xs := by
  have hL := hcells_length (hsh xs).1 blk xs.length (hsh_ok hx).l1 h2
  refine hash_of_cells h2 hb ht hx (fun j v hv => ?_) (fun j hj => by rw [World.frozen?_setCells]; exact hf j hj)
  have hj := (List.getElem?_eq_some_iff.1 hv).1
  rw [World.cell?_setCells_in g _ off w (fun i hi => hc i (by omega)) j hj, ← hv, List.getElem?_eq_getElem hj]
theorem size162 : (Tryd.prog.info? 78).map (·.size) = some 162 := by kernel_rfl
theorem hash0_eq : hash0 = hcells (List.replicate 25 0) (List.replicate 136 0) 0 := rfl

set_option maxRecDepth 100000 in
set_option maxHeartbeats 400000 in
theorem new_any (w : World) : Calls Tryd.prog 19 #[] w fun e w' => e = .returned (.pointer (some ⟨w.heap.size, 0, none⟩)) ∧ HashAt w' w.heap.size 0 [] ∧ Kept (fun _ => False) w w' ∧ w.heap.size < w'.heap.size := by
  have hh := hash_new w hash0.toArray 78 (by simp)
  have HH := Lib.hid hh; clear hh
  go_enter Tryd.func19, Tryd.ntmps19
  go_wp2_with fail
  go_ret
  exact ⟨rfl, HH.out, Kept.alloc _ _ _, by simp⟩

set_option maxRecDepth 100000 in
theorem len_any (w : World) (g off : Nat) (xs : List Nat) (hh : HashAt w g off xs) : Calls Tryd.prog 21 #[.pointer (some ⟨g, off, none⟩)] w fun e w' => e = .returned (.int .u64 (xs.length : Nat)) ∧ w = w' := by
  have hl := hh.len
  clear hh
  go_enter Tryd.func21, Tryd.ntmps21
  go_wp2_with fail
  go_ret
  exact ⟨rfl, rfl⟩

set_option maxRecDepth 100000 in
set_option maxHeartbeats 800000 in
theorem reset_any (w : World) (g off : Nat) (xs : List Nat) (hh : HashAt w g off xs) : Calls Tryd.prog 24 #[.pointer (some ⟨g, off, none⟩)] w fun e w' => e = .returned (.tuple #[]) ∧ HashAt w' g off [] ∧ Kept (fun k => k = g) w w' := by
  obtain ⟨blk, h2, hb, ht, hc, hf⟩ := hh.cells
  have hL := hcells_length (hsh xs).1 blk xs.length (hsh_ok hh.byte).l1 h2
  have z1 : ∀ j, j < hash0.length → (w.cell? ⟨g, off + j, none⟩).isSome = true := fun j hj => by
    have hj' : j < 162 := hj
    rw [hc j _ (List.getElem?_eq_getElem (by omega))]; rfl
  have z2 : ∀ j, j < hash0.length → w.frozen? ⟨g, off + j, none⟩ = false := fun j hj => hf j hj
  have hfin : HashAt (w.setCells g off hash0) g off [] := by
    rw [hash0_eq]
    exact hash_stored (xs := []) (by simp) (fun x hx => by have := List.eq_of_mem_replicate hx; omega) rfl (by simp) (fun j hj => z1 j hj) (fun j hj => z2 j hj)
  have ho : ∀ v ∈ hash0, v.oneCell' = true := by rw [hash0_eq]; exact hcells_one _ _ _
  have HF := Lib.hid hfin; have Z1 := Lib.hid z1; have Z2 := Lib.hid z2; have HO := Lib.hid ho
  have HS : Hid ((Tryd.prog.info? 78).map (·.size) = some hash0.length) := size162
  have HK : Hid (Kept (fun k => k = g) w (w.setCells g off hash0)) := Kept.setCells _ _ _ _
  clear hfin z1 z2 ho hc hf hL hh hb ht h2
  go_enter Tryd.func24, Tryd.ntmps24
  go_wp2_with (first | (refine wpList_store_at rfl 78 _ _ rfl g off hash0 rfl rfl Z1.out Z2.out HO.out HS.out ?_))
  go_end0
  exact ⟨rfl, HF.out, HK.out⟩

set_option maxRecDepth 100000 in
set_option maxHeartbeats 800000 in
theorem copy_any (w : World) (g off : Nat) (xs : List Nat) (hh : HashAt w g off xs) : Calls Tryd.prog 23 #[.pointer (some ⟨g, off, none⟩)] w fun e w' => e = .returned (.pointer (some ⟨w.heap.size, 0, none⟩)) ∧ HashAt w' w.heap.size 0 xs ∧ Kept (fun _ => False) w w' ∧ w.heap.size < w'.heap.size := by
  obtain ⟨blk, h2, hb, ht, hc, hf⟩ := hh.cells
  have hL := hcells_length (hsh xs).1 blk xs.length (hsh_ok hh.byte).l1 h2
  have h0 := hash_new w hash0.toArray 78 (by simp)
  obtain ⟨blk0, b2, bb, bt, bc, bf⟩ := h0.cells
  have hL0 := hcells_length (hsh []).1 blk0 0 rfl b2
  have z1 : ∀ j, j < (hcells (hsh xs).1 blk xs.length).length → ((w.alloc (.cells hash0.toArray 78)).cell? ⟨w.heap.size, 0 + j, none⟩).isSome = true := fun j hj => by
    rw [bc j _ (List.getElem?_eq_getElem (by show j < (hcells (hsh []).1 blk0 0).length; omega))]; rfl
  have z2 : ∀ j, j < (hcells (hsh xs).1 blk xs.length).length → (w.alloc (.cells hash0.toArray 78)).frozen? ⟨w.heap.size, 0 + j, none⟩ = false := fun j hj => bf j (by omega)
  have hfin : HashAt ((w.alloc (.cells hash0.toArray 78)).setCells w.heap.size 0 (hcells (hsh xs).1 blk xs.length)) w.heap.size 0 xs :=
    hash_stored h2 hb ht hh.byte (fun j hj => z1 j (by omega)) (fun j hj => z2 j (by omega))
  have ho := hcells_one (hsh xs).1 blk xs.length
  have hs : (Tryd.prog.info? 78).map (·.size) = some (hcells (hsh xs).1 blk xs.length).length := by rw [hL]; exact size162
  have hk : Kept (fun _ => False) w ((w.alloc (.cells hash0.toArray 78)).setCells w.heap.size 0 (hcells (hsh xs).1 blk xs.length)) :=
    (Kept.alloc (fun _ => False) _ _).trans (Kept.setCells _ _ _ _) (fun _ _ h => h) (fun i hi e => by omega)
  have hsz : w.heap.size < ((w.alloc (.cells hash0.toArray 78)).setCells w.heap.size 0 (hcells (hsh xs).1 blk xs.length)).heap.size := Nat.lt_of_lt_of_le (by simp) (Kept.setCells w.heap.size (hcells (hsh xs).1 blk xs.length) 0 (w.alloc (.cells hash0.toArray 78))).size
  generalize hcells (hsh xs).1 blk xs.length = cs at *
  have HC := Lib.hid hc; have Z1 := Lib.hid z1; have Z2 := Lib.hid z2; have HF := Lib.hid hfin; have HO := Lib.hid ho; have HS := Lib.hid hs; have HK := Lib.hid hk; have HSZ := Lib.hid hsz
  clear hc z1 z2 hfin ho hs hk hsz hf hL h0 bc bf bb bt b2 hL0 hh ht hb h2
  go_enter Tryd.func23, Tryd.ntmps23
  go_wp2_with (first | (refine wpList_load_at rfl 78 _ rfl g off rfl cs _ HC.out Tryd.underlying78 rfl HS.out ?_) | (refine wpList_store_at rfl 78 _ _ rfl w.heap.size 0 cs rfl rfl Z1.out Z2.out HO.out HS.out ?_))
  go_ret
  exact ⟨rfl, HF.out, HK.out, HSZ.out⟩

set_option maxRecDepth 100000 in
set_option maxHeartbeats 800000 in
theorem short_any (w : World) (a : Option Addr) (xs : List Nat) (c : Nat) (hp : Reads w (.slice a xs.length c) xs) :
    Calls Tryd.prog 17 #[.slice a xs.length c] w fun e w' => e = .returned (.slice a (xs.take 600).length c) ∧ w = w' := by
  have hle : xs.length ≤ c := by
    rcases hp with ⟨h, rfl⟩ | ⟨g, off, cap, h, h1, _⟩
    · simp
    · cases h; exact h1
  have hm := hp.le
  unfold maxLen at hm
  have hc : c ≤ 2 ^ 63 - 1 := by
    rcases hp with ⟨h, rfl⟩ | ⟨g, off, cap, h, h1, h2, _⟩
    · injection h with e1 e2 e3; subst e3; decide
    · cases h; exact h2
  have htl : (xs.take 600).length = Nat.min 600 xs.length := by simp
  obtain ⟨l, hl⟩ : ∃ l, l = xs.length := ⟨_, rfl⟩
  obtain ⟨n, hn⟩ : ∃ n, n = (xs.take 600).length := ⟨_, rfl⟩
  have hnl : n = Nat.min 600 l := by rw [hn, htl, hl]
  have n1 : n ≤ l := by rw [hnl]; exact Nat.min_le_right _ _
  rw [← hl] at hle hm
  rw [← hl, ← hn]
  have n2 : n ≤ c := by omega
  have hcase : (l ≤ 600 ∧ n = l) ∨ (600 < l ∧ n = 600) := by
    rcases Nat.lt_or_ge 600 l with h | h
    · exact Or.inr ⟨h, by rw [hnl]; exact Nat.min_eq_left (by omega)⟩
    · exact Or.inl ⟨h, by rw [hnl]; exact Nat.min_eq_right h⟩
  clear hnl htl hn hl hp
  have e : min (l : Int) 600 = (n : Int) := by omega
  have p1 : (0 : Int) ≤ n := by omega
  have p2 : (n : Int) ≤ c := by omega
  clear hcase
  go_enter Tryd.func17, Tryd.ntmps17
  go_wp2_with fail
  go_ret
  exact ⟨rfl, rfl⟩
end Go.Proofs.YtnjmffmdlaobdabDoor
