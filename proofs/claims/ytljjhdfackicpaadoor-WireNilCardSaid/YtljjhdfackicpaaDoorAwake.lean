/-
  arbaclaw02.awake: the chapter's first example holds.
-/
import Derived.Test.YtljjhdfackicpaaDoorWriter
import Derived.Test.YtljjhdfackicpaaDoorRead2
import Derived.Test.YtljjhdfackicpaaDoorMake
import Derived.Test.YtljjhdfackicpaaDoorSame
namespace Go.Proofs.YtljjhdfackicpaaDoor
open Go.RowKit

theorem enc_small {n : Nat} (h : n < 128) : enc n = [n] := by
  rw [enc, Nat.div_eq_of_lt h, encHi_zero, Nat.mod_eq_of_lt h]; rfl
theorem enc_300 : enc 300 = [130, 44] := by
  rw [enc, show 300 / 128 = 2 from rfl, encHi_pos (by decide), show 2 / 128 = 0 from rfl, encHi_zero]; rfl
theorem mask_19 : maskOf [1, 9] = 514 := by decide
theorem bytes_514 : bytesOf 514 = [2, 2] := by
  unfold bytesOf
  rw [if_neg (by decide)]
  decide
theorem awake_bytes : ((enc 300 ++ enc (zz (-3))) ++ (enc 2 ++ [97, 98])) ++ (enc (bytesOf 514).length ++ bytesOf 514) = [130, 44, 5, 2, 97, 98, 2, 2, 2] := by
  rw [bytes_514, enc_300, show zz (-3) = 5 from rfl, enc_small (n := 5) (by decide), enc_small (n := 2) (by decide), show [2, 2].length = 2 from rfl, enc_small (n := 2) (by decide)]; rfl
theorem awake_read : uintS [128, 5] 1000 0 = (0, [128, 5], 6) := by decide

/-- A block of cells that was laid reads as its bytes. -/
theorem reads_lit (w : World) (cs : Array Value) (T : TypeId) (xs : List Nat) (n : Nat) (hn : n = xs.length) (hcs : cs.toList = bv xs) (hm : xs.length ≤ maxLen) :
    Reads (w.alloc (.cells cs T)) (.slice (some ⟨w.heap.size, 0, none⟩) n n) xs := by
  subst hn
  refine Or.inr ⟨w.heap.size, 0, xs.length, rfl, Nat.le_refl _, hm, by simp, fun i hi => ?_⟩
  rw [Nat.zero_add, cell_of_row _ w.heap.size i cs T (0, 0) (heap_alloc_new w _), ← Array.getElem?_toList, hcs, bv_getD xs i hi]

theorem ints_lit (w : World) (cs : Array Value) (T : TypeId) (xs : List Int) (n : Nat) (hn : n = xs.length) (hcs : cs.toList = xs.map (Value.int .i64)) (hm : xs.length ≤ maxLen) :
    Ints (w.alloc (.cells cs T)) (.slice (some ⟨w.heap.size, 0, none⟩) n n) xs := by
  subst hn
  refine Or.inr ⟨w.heap.size, 0, xs.length, rfl, Nat.le_refl _, hm, by simp, fun i hi => ?_⟩
  rw [Nat.zero_add, cell_of_row _ w.heap.size i cs T (0, 0) (heap_alloc_new w _), ← Array.getElem?_toList, hcs]
  simp [List.getD, hi]

set_option maxRecDepth 100000 in
set_option maxHeartbeats 1600000 in
theorem awake_any (w : World) : Calls Tryd.prog 45 #[] w fun e w' => e = .returned (.bool true) ∧ Kept (fun _ => False) w w' := by
  go_enter Tryd.func45, Tryd.ntmps45
  go_wp2_with fail
  refine (newWriter_any w).mono ?_
  rintro e w1 ⟨rfl, hw1⟩
  have hwr1 : Wr w1 w.heap.size (.slice none 0 0) w.heap.size [] := by rw [hw1]; exact wr_new w w.heap.size (Nat.le_refl _)
  have hk1 : Kept (fun _ => False) w w1 := by rw [hw1]; exact Kept.alloc _ _ _
  clear hw1
  go_wp2_with fail
  refine (uint_any 300 w1 w.heap.size _ w.heap.size [] hwr1 (by simp) (by show 300 < 18446744073709551616; omega)).mono ?_
  rintro e w2 ⟨rfl, v2, hwr2, hs2⟩
  go_wp2_with fail
  refine (int_any (-3) w2 w.heap.size _ w.heap.size _ hwr2 (by simp [enc_300]) ⟨by omega, by omega⟩).mono ?_
  rintro e w3 ⟨rfl, v3, hwr3, hs3⟩
  go_wp2_with fail
  have hz3 : enc (zz (-3)) = [5] := by rw [show zz (-3) = 5 from rfl, enc_small (n := 5) (by decide)]
  have hlt3 := hwr3.lt
  refine (string_any ⟨#[97, 98]⟩ w3 w.heap.size v3 w.heap.size _ hwr3 (by simp [enc_300, hz3]) (by simp [ByteArray.size]) (by omega)).mono ?_
  rintro e w4 ⟨rfl, v4, hwr4, hs4⟩
  have hlt4 := hwr4.lt
  rw [show ByteArray.size ⟨#[97, 98]⟩ = 2 from rfl, show strB ⟨#[97, 98]⟩ = [97, 98] from rfl] at hwr4
  have HZ3 := Lib.hid hz3; clear hz3
  go_wp2_with fail
  refine (of_at _ w4.heap.size 0 2 [1, 9] (by simp) (by simp [maxLen]) (by simp) ?ints).mono ?_
  case ints =>
    intro i hi
    match i, hi with
    | 0, _ => exact (cell_of_row _ w4.heap.size 0 _ _ (0, 0) (heap_alloc_new w4 _)).trans rfl
    | 1, _ => exact (cell_of_row _ w4.heap.size 1 _ _ (0, 0) (heap_alloc_new w4 _)).trans rfl
  rintro e w5 ⟨sv, rfl, hsv, hsb, hk5⟩
  rw [mask_19] at hsv
  have hk45 : Kept (fun _ => False) w4 w5 := (Kept.alloc (fun _ => False) w4 _).then hk5
  have hwr5 := hwr4.kept hk45 (fun h => h) (fun _ _ h => h)
  have hlt5 := hwr5.lt
  go_wp2_with fail
  refine (wset_any sv 514 (by rw [← mask_19]; exact maskOf_small _) w5 w.heap.size v4 w.heap.size _ hwr5 hsv (by simp [enc_300, HZ3.out, enc_small (n := 2) (by decide)]) (by omega)).mono ?_
  rintro e w6 ⟨rfl, v6, hwr6, hs6⟩
  have hxs := awake_bytes
  have hwr6' : Wr w6 w.heap.size v6 w.heap.size [130, 44, 5, 2, 97, 98, 2, 2, 2] := by rw [← hxs]; exact hwr6
  clear hxs hwr6
  have hlt6 := hwr6'.lt
  have hk16 : Kept (fun _ => False) w w6 := by
    have s14 := (hs2.trans hs3).trans hs4
    have k14 : Kept (fun _ => False) w w4 := hk1.trans s14.kept (fun _ _ h => h) fun i hi h => by
      rcases h with h | h
      · omega
      · simp [blk, Value.ownBlock] at h
    have r14 : ∀ k, v4.ownBlock = some k → w.heap.size ≤ k := fun k hk => (hwr4.own.lt k hk).1
    exact (k14.then hk45).trans hs6.kept (fun _ _ h => h) fun i hi h => by
      rcases h with h | h
      · omega
      · have := r14 i h; omega
  have HK16 := Lib.hid hk16; clear hk16 hs2 hs3 hs4 hs6 hk45 hk5 hk1 hwr1 hwr2 hwr3 hwr4 hwr5 hlt3 hlt4 hlt5 hsb hsv HZ3
  go_wp2_with fail
  refine (newReader_any _ _ [128, 5] (reads_lit w6 _ _ [128, 5] 2 rfl rfl (by simp [maxLen])) (by simp)).mono ?_
  rintro e w7 ⟨rb, rv, rfl, hrd7, hrb, hrv, hk7⟩
  have hk67 : Kept (fun _ => False) w6 w7 := (Kept.alloc (fun _ => False) w6 _).then hk7
  simp at hrb hrv
  go_wp2_with fail
  refine (ruint_any w7 rb rv [128, 5] 0 1000 hrd7 (by simp)).mono ?_
  rw [awake_read]
  rintro e w8 ⟨rfl, rv8, hrd8, hrb8, hk8⟩
  have hwr8 : Wr w8 w.heap.size v6 w.heap.size [130, 44, 5, 2, 97, 98, 2, 2, 2] := by
    refine (hwr6'.kept hk67 (fun h => h) (fun _ _ h => h)).kept hk8 (by omega) (fun k hk e => ?_)
    have := (hwr6'.own.lt k hk).2
    omega
  have HWR8 := Lib.hid hwr8; clear hwr8
  go_wp2_with fail
  refine (out_any w8 w.heap.size v6 _ HWR8.out.reads (by simp) HWR8.out.cell).mono ?_
  rintro e w9 ⟨v9, rfl, hf9, hk9⟩
  have hrd9 := hrd8.kept hk9 (fun h => h) (fun _ _ h => h)
  go_wp2_with fail
  have hr9 := hf9.reads.kept (Kept.alloc (fun _ => False) w9 (.cells (bv [130, 44, 5, 2, 97, 98, 2, 2, 2]).toArray 5)) (fun _ _ h => h)
  have hrd10 := hrd9.kept (Kept.alloc (fun _ => False) w9 (.cells (bv [130, 44, 5, 2, 97, 98, 2, 2, 2]).toArray 5)) (fun h => h) (fun _ _ h => h)
  refine (same_any _ v9 _ [130, 44, 5, 2, 97, 98, 2, 2, 2] [130, 44, 5, 2, 97, 98, 2, 2, 2] hr9 (reads_lit w9 _ _ _ 9 rfl rfl (by simp [maxLen])) (by simp) (by simp)).mono ?_
  rintro e w10 ⟨rfl, rfl⟩
  have hk0 : Kept (fun _ => False) w (w9.alloc (.cells (bv [130, 44, 5, 2, 97, 98, 2, 2, 2]).toArray 5)) := by
    refine ((HK16.out.then hk67).trans hk8 (fun _ _ h => h) fun i hi h => ?_).then (hk9.then (Kept.alloc _ _ _))
    omega
  have c1 := hrd10.cell1
  obtain ⟨ra, rc, c0⟩ : ∃ a c, (w9.alloc (.cells (bv [130, 44, 5, 2, 97, 98, 2, 2, 2]).toArray 5)).cell? ⟨rb, 0, none⟩ = some (.slice a 2 c) := by
    rcases hrd10.reads with ⟨_, h⟩ | ⟨g, off, cap, h, _⟩
    · cases h
    · exact ⟨_, _, by rw [hrd10.cell0, h]; rfl⟩
  have C0 := Lib.hid c0; have C1 := Lib.hid c1
  clear c0 c1
  go_wp2_with fail
  refine (err_any _ rb 6 C1.out).mono ?_
  rintro e w11 ⟨rfl, rfl⟩
  go_wp2_with fail
  refine (left_any _ rb ra 2 rc C0.out).mono ?_
  rintro e w11 ⟨rfl, rfl⟩
  go_wp2_with fail
  go_ret
  exact ⟨rfl, hk0⟩

end Go.Proofs.YtljjhdfackicpaaDoor
