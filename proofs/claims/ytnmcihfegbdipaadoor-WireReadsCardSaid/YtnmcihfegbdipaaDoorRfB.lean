/-
  The reference's reader of layer 2: Bytes.
-/
import Derived.Test.YtnmcihfegbdipaaDoorRfI
import Derived.Test.YtnmcihfegbdipaaDoorPiece
import Derived.Test.YtnmcihfegbdipaaDoorAppR8
namespace Go.Proofs.YtnmcihfegbdipaaDoor
open Go.RowKit
set_option linter.unusedVariables false

theorem fresh_empty (w : World) : Fresh (w.alloc (.cells #[] 5)) w.heap.size (.slice (some ⟨w.heap.size, 0, none⟩) 0 0) [] :=
  ⟨⟨by simp [bv], Or.inr ⟨w.heap.size, 0, #[], rfl, Nat.le_refl _, heap_alloc_new w _, Nat.le_refl _, Nat.zero_le _, by simp, by simp [bv]⟩⟩, fun k hk => by simp [Value.ownBlock] at hk; omega⟩
/-- A new copy of bytes that lie in memory. -/
theorem copy_run {w : World} {y : Value} {ys : List Nat} (hy : Reads w y ys) (hl : ys.length ≤ 1000000) :
    ∃ a c w', (Builtin.append_ #[38, 38] 38 #[.slice (some ⟨w.heap.size, 0, none⟩) 0 0, y]).run Tryd.prog (w.alloc (.cells #[] 5)) = .ok (.slice a ys.length c) w' ∧ Fresh w' w.heap.size (.slice a ys.length c) ys ∧ Kept (fun _ => False) w w' := by
  obtain ⟨a, c, w', h1, h2, h3⟩ := append_reads_run (fresh_empty w) (hy.kept (Kept.alloc (fun _ => False) w (.cells #[] 5)) (fun _ _ h => h)) (by simpa using hl) (by simp)
  rw [List.nil_append] at h1 h2
  exact ⟨a, c, w', h1, h2, (Kept.alloc (fun _ => False) w _).trans h3 (fun _ _ h => h) (fun i hi e => by simp [blk, Value.ownBlock] at e; omega)⟩

set_option maxRecDepth 100000 in
set_option maxHeartbeats 800000 in
theorem mbytes_bad (w : World) (mb : Nat) (most err : Int) (c1 : w.cell? ⟨mb, 1, none⟩ = some (.int .i64 err)) (he : (err == 0) = false) (he2 : (err != 0) = true) :
    Calls Tryd.prog 65 #[.pointer (some ⟨mb, 0, none⟩), .int .i64 most] w fun e w' => e = .returned (.slice none 0 0) ∧ w = w' := by
  go_enter Tryd.func65, Tryd.ntmps65
  go_wp2_with fail
  go_ret
  exact ⟨rfl, rfl⟩

set_option maxRecDepth 100000 in
set_option maxHeartbeats 800000 in
theorem mbytes_neg (w : World) (mb : Nat) (most : Int) (c1 : w.cell? ⟨mb, 1, none⟩ = some (.int .i64 0)) (f1 : w.frozen? ⟨mb, 1, none⟩ = false) (hm : most < 0) :
    Calls Tryd.prog 65 #[.pointer (some ⟨mb, 0, none⟩), .int .i64 most] w fun e w' => e = .returned (.slice none 0 0) ∧ w' = w.setCell ⟨mb, 1, none⟩ (.int .i64 1) := by
  go_enter Tryd.func65, Tryd.ntmps65
  go_wp2_with fail
  go_ret
  exact ⟨rfl, rfl⟩

set_option maxRecDepth 100000 in
set_option maxHeartbeats 800000 in
theorem mbytes_none (w : World) (mb m x : Nat) (hmb : m < 9223372036854775808) (c1 : w.cell? ⟨mb, 1, none⟩ = some (.int .i64 0)) (f1 : w.frozen? ⟨mb, 1, none⟩ = false) (HC : Hid (NumAns w mb x 0)) :
    Calls Tryd.prog 65 #[.pointer (some ⟨mb, 0, none⟩), .int .i64 (m : Nat)] w fun e w' => e = .returned (.slice none 0 0) ∧ w' = w.setCell ⟨mb, 1, none⟩ (.int .i64 6) := by
  have hm0 : ¬ (m : Int) < 0 := by omega
  go_enter Tryd.func65, Tryd.ntmps65
  go_wp2_with fail
  refine (HC.out).mono ?_
  rintro e w' ⟨hh, -⟩
  obtain ⟨rfl, rfl⟩ := hh rfl
  clear hh
  go_wp2_with fail
  go_ret
  exact ⟨rfl, rfl⟩

set_option maxRecDepth 100000 in
set_option maxHeartbeats 800000 in
theorem mbytes_lim (w : World) (mb m x n : Nat) (hmb : m < 9223372036854775808) (c1 : w.cell? ⟨mb, 1, none⟩ = some (.int .i64 0)) (f1 : w.frozen? ⟨mb, 1, none⟩ = false) (HC : Hid (NumAns w mb x n)) (HN : Hid (n ≠ 0)) (hx : (m : Int) < (x : Int)) :
    Calls Tryd.prog 65 #[.pointer (some ⟨mb, 0, none⟩), .int .i64 (m : Nat)] w fun e w' => e = .returned (.slice none 0 0) ∧ w' = w.setCell ⟨mb, 1, none⟩ (.int .i64 3) := by
  have hm0 : ¬ (m : Int) < 0 := by omega
  have hmw : IntKind.u64.wrap (m : Int) = (m : Int) := IntWalk.u64_in _ (by omega)
  go_enter Tryd.func65, Tryd.ntmps65
  go_wp2_with fail
  refine (HC.out).mono ?_
  rintro e w' ⟨-, hh⟩
  obtain ⟨rfl, rfl⟩ := hh HN.out
  clear hh
  go_wp2_with fail
  go_ret
  exact ⟨rfl, rfl⟩

set_option maxRecDepth 100000 in
set_option maxHeartbeats 800000 in
theorem mbytes_short (w : World) (mb m x n : Nat) (hmb : m < 9223372036854775808) (c1 : w.cell? ⟨mb, 1, none⟩ = some (.int .i64 0)) (f1 : w.frozen? ⟨mb, 1, none⟩ = false) (HC : Hid (NumAns w mb x n)) (HN : Hid (n ≠ 0)) (g off cap L d : Nat) (c0 : w.cell? ⟨mb, 0, none⟩ = some (.slice (some ⟨g, off, none⟩) L cap)) (hx : x ≤ m) (hnl : n ≤ L) (hd : L = n + d) (hlc : L ≤ cap) (hcb : cap ≤ 9223372036854775807) (hxd : d < x) :
    Calls Tryd.prog 65 #[.pointer (some ⟨mb, 0, none⟩), .int .i64 (m : Nat)] w fun e w' => e = .returned (.slice none 0 0) ∧ w' = w.setCell ⟨mb, 1, none⟩ (.int .i64 6) := by
  have hm0 : ¬ (m : Int) < 0 := by omega
  have hx0 : ¬ (m : Int) < (x : Int) := by omega
  have hxd' : (d : Int) < (x : Int) := by omega
  obtain ⟨hmw, hxw, hdw⟩ : IntKind.u64.wrap (m : Int) = (m : Int) ∧ wrap64 (x : Int) = (x : Int) ∧ wrap64 ((L : Int) - (n : Int)) = (d : Int) :=
    ⟨IntWalk.u64_in _ (by omega), IntWalk.wrap64_in _ (by omega), by rw [show (L : Int) - (n : Int) = (d : Int) by omega]; exact IntWalk.wrap64_in _ (by omega)⟩
  clear hd hxd hnl hlc hcb
  go_enter Tryd.func65, Tryd.ntmps65
  go_wp2_with fail
  refine (HC.out).mono ?_
  rintro e w' ⟨-, hh⟩
  obtain ⟨rfl, rfl⟩ := hh HN.out
  clear hh
  go_wp2_with fail
  go_ret
  exact ⟨rfl, rfl⟩

set_option maxRecDepth 100000 in
set_option maxHeartbeats 800000 in
theorem mbytes_in_a (w : World) (mb m x n : Nat) (hmb : m < 9223372036854775808) (c1 : w.cell? ⟨mb, 1, none⟩ = some (.int .i64 0)) (HC : Hid (NumAns w mb x n)) (HN : Hid (n ≠ 0)) (g off cap L d : Nat) (c0 : w.cell? ⟨mb, 0, none⟩ = some (.slice (some ⟨g, off, none⟩) L cap)) (hx : x ≤ m) (hnl : n ≤ L) (hd : L = n + d) (hlc : L ≤ cap) (hcb : cap ≤ 9223372036854775807) (ys : List Nat) (hyl : ys.length = x) (hyb : x ≤ 1000000) (f0 : w.frozen? ⟨mb, 0, none⟩ = false) (hxd : x ≤ d) (hnc : n = cap) (hrd : Reads w (.slice (some ⟨g, off, none⟩) x (cap - n)) ys) :
    Calls Tryd.prog 65 #[.pointer (some ⟨mb, 0, none⟩), .int .i64 (m : Nat)] w fun e w' => ∃ u w1, e = .returned u ∧ Fresh w1 w.heap.size u ys ∧ Kept (fun _ => False) w w1 ∧ w' = w1.setCell ⟨mb, 0, none⟩ (.slice (some ⟨g, off, none⟩) (L - (n + x) : Nat) (cap - (n + x) : Nat)) := by
  have hm0 : ¬ (m : Int) < 0 := by omega
  have hx0 : ¬ (m : Int) < (x : Int) := by omega
  have hxd0 : ¬ (d : Int) < (x : Int) := by omega
  have hblt : mb < w.heap.size := World.block_lt_of_cell? w _ c0
  obtain rfl : x = 0 := by omega
  obtain rfl : d = 0 := by omega
  obtain rfl : L = n := by omega
  subst hnc
  obtain ⟨a4, c4, w4, hr4, hf4, hk4⟩ := copy_run hrd (by omega)
  rw [hyl] at hr4 hf4
  have R4 := Lib.hid hr4; have HF4 := Lib.hid hf4; have HK4 := Lib.hid hk4
  have d0 := (hk4.cell (p := ⟨mb, 0, none⟩) hblt (fun h => h)).trans c0
  have g0 := (hk4.frozen (p := ⟨mb, 0, none⟩) hblt (fun h => h)).trans f0
  clear hr4 hf4 hk4 hd hxd hnl hlc hrd hyb hyl f0
  obtain ⟨hmw, hb1, hb2⟩ : IntKind.u64.wrap (m : Int) = (m : Int) ∧ (0 : Int) ≤ (L : Int) ∧ (L : Int) ≤ 9223372036854775807 := ⟨IntWalk.u64_in _ (by omega), by omega, by omega⟩
  clear hmb hcb
  go_enter Tryd.func65, Tryd.ntmps65
  go_wp2_with fail
  refine (HC.out).mono ?_
  rintro e w' ⟨-, hh⟩
  obtain ⟨rfl, rfl⟩ := hh HN.out
  clear hh
  go_wp2_with (at_builtin; refine wpList_append_run (by rfl) _ _ _ _ rfl _ _ rfl rfl R4.out ?_)
  go_wp2_with fail
  go_ret
  exact ⟨_, _, rfl, HF4.out, HK4.out, by simp⟩

set_option maxRecDepth 100000 in
set_option maxHeartbeats 800000 in
theorem mbytes_in_b (w : World) (mb m x n : Nat) (hmb : m < 9223372036854775808) (c1 : w.cell? ⟨mb, 1, none⟩ = some (.int .i64 0)) (HC : Hid (NumAns w mb x n)) (HN : Hid (n ≠ 0)) (g off cap L d : Nat) (c0 : w.cell? ⟨mb, 0, none⟩ = some (.slice (some ⟨g, off, none⟩) L cap)) (hx : x ≤ m) (hnl : n ≤ L) (hd : L = n + d) (hlc : L ≤ cap) (hcb : cap ≤ 9223372036854775807) (ys : List Nat) (hyl : ys.length = x) (hyb : x ≤ 1000000) (f0 : w.frozen? ⟨mb, 0, none⟩ = false) (hxd : x ≤ d) (hnc : ¬ n = cap) (hsc : n + x = cap) (hrd : Reads w (.slice (some ⟨g, off + n, none⟩) x (cap - n)) ys) :
    Calls Tryd.prog 65 #[.pointer (some ⟨mb, 0, none⟩), .int .i64 (m : Nat)] w fun e w' => ∃ u w1, e = .returned u ∧ Fresh w1 w.heap.size u ys ∧ Kept (fun _ => False) w w1 ∧ w' = w1.setCell ⟨mb, 0, none⟩ (.slice (some ⟨g, off, none⟩) (L - (n + x) : Nat) (cap - (n + x) : Nat)) := by
  have hm0 : ¬ (m : Int) < 0 := by omega
  have hx0 : ¬ (m : Int) < (x : Int) := by omega
  have hxd0 : ¬ (d : Int) < (x : Int) := by omega
  have hblt : mb < w.heap.size := World.block_lt_of_cell? w _ c0
  obtain ⟨a4, c4, w4, hr4, hf4, hk4⟩ := copy_run hrd (by omega)
  rw [hyl] at hr4 hf4
  have R4 := Lib.hid hr4; have HF4 := Lib.hid hf4; have HK4 := Lib.hid hk4
  have d0 := (hk4.cell (p := ⟨mb, 0, none⟩) hblt (fun h => h)).trans c0
  have g0 := (hk4.frozen (p := ⟨mb, 0, none⟩) hblt (fun h => h)).trans f0
  have HQ0 : cap = n + x := by omega
  have hcn : ¬ cap = n := fun e => hnc e.symm
  rw [show L - (n + x) = L - cap by rw [HQ0], show cap - (n + x) = cap - cap by rw [HQ0]]
  obtain ⟨hmw, hxw, hdw, hsw, hb1, hb2, hb3, hb4, hb5, hb6⟩ : IntKind.u64.wrap (m : Int) = (m : Int) ∧ wrap64 (x : Int) = (x : Int) ∧ wrap64 ((L : Int) - (n : Int)) = (d : Int) ∧ wrap64 ((n : Int) + (x : Int)) = (cap : Int) ∧
      (0 : Int) ≤ (n : Int) ∧ (n : Int) ≤ (cap : Int) ∧ (cap : Int) ≤ (cap : Int) ∧ (cap : Int) ≤ (L : Int) ∧ (0 : Int) ≤ (cap : Int) ∧ cap - n = x :=
    ⟨IntWalk.u64_in _ (by omega), IntWalk.wrap64_in _ (by omega), by rw [show (L : Int) - (n : Int) = (d : Int) by omega]; exact IntWalk.wrap64_in _ (by omega), by rw [show (n : Int) + (x : Int) = (cap : Int) by omega]; exact IntWalk.wrap64_in _ (by omega), by omega, by omega, by omega, by omega, by omega, by omega⟩
  clear hr4 hf4 hk4 hd hxd hnl hlc hrd hyb hyl f0 hmb hcb hx HQ0 hsc
  go_enter Tryd.func65, Tryd.ntmps65
  go_wp2_with fail
  refine (HC.out).mono ?_
  rintro e w' ⟨-, hh⟩
  obtain ⟨rfl, rfl⟩ := hh HN.out
  clear hh
  go_wp2_with (at_builtin; refine wpList_append_run (by rfl) _ _ _ _ rfl _ _ rfl rfl R4.out ?_)
  go_wp2_with fail
  go_ret
  exact ⟨_, _, rfl, HF4.out, HK4.out, by simp⟩

set_option maxRecDepth 100000 in
set_option maxHeartbeats 800000 in
theorem mbytes_in_c (w : World) (mb m x n : Nat) (hmb : m < 9223372036854775808) (c1 : w.cell? ⟨mb, 1, none⟩ = some (.int .i64 0)) (HC : Hid (NumAns w mb x n)) (HN : Hid (n ≠ 0)) (g off cap L d : Nat) (c0 : w.cell? ⟨mb, 0, none⟩ = some (.slice (some ⟨g, off, none⟩) L cap)) (hx : x ≤ m) (hnl : n ≤ L) (hd : L = n + d) (hlc : L ≤ cap) (hcb : cap ≤ 9223372036854775807) (ys : List Nat) (hyl : ys.length = x) (hyb : x ≤ 1000000) (f0 : w.frozen? ⟨mb, 0, none⟩ = false) (hxd : x ≤ d) (hnc : ¬ n = cap) (hsc : ¬ n + x = cap) (hrd : Reads w (.slice (some ⟨g, off + n, none⟩) x (cap - n)) ys) :
    Calls Tryd.prog 65 #[.pointer (some ⟨mb, 0, none⟩), .int .i64 (m : Nat)] w fun e w' => ∃ u w1, e = .returned u ∧ Fresh w1 w.heap.size u ys ∧ Kept (fun _ => False) w w1 ∧ w' = w1.setCell ⟨mb, 0, none⟩ (.slice (some ⟨g, off + (n + x), none⟩) (L - (n + x) : Nat) (cap - (n + x) : Nat)) := by
  have hm0 : ¬ (m : Int) < 0 := by omega
  have hx0 : ¬ (m : Int) < (x : Int) := by omega
  have hxd0 : ¬ (d : Int) < (x : Int) := by omega
  have hblt : mb < w.heap.size := World.block_lt_of_cell? w _ c0
  obtain ⟨a4, c4, w4, hr4, hf4, hk4⟩ := copy_run hrd (by omega)
  rw [hyl] at hr4 hf4
  have R4 := Lib.hid hr4; have HF4 := Lib.hid hf4; have HK4 := Lib.hid hk4
  have d0 := (hk4.cell (p := ⟨mb, 0, none⟩) hblt (fun h => h)).trans c0
  have g0 := (hk4.frozen (p := ⟨mb, 0, none⟩) hblt (fun h => h)).trans f0
  obtain ⟨s, hs⟩ : ∃ s, s = n + x := ⟨_, rfl⟩
  have HQ0 : s = n + x := by omega
  have hcn : ¬ cap = n := fun e => hnc e.symm
  have hcs : ¬ cap = s := by omega
  rw [show L - (n + x) = L - s by rw [HQ0], show cap - (n + x) = cap - s by rw [HQ0], show off + (n + x) = off + s by rw [HQ0]]
  obtain ⟨hmw, hxw, hdw, hsw, hb1, hb2, hb3, hb4, hb5, hb6⟩ : IntKind.u64.wrap (m : Int) = (m : Int) ∧ wrap64 (x : Int) = (x : Int) ∧ wrap64 ((L : Int) - (n : Int)) = (d : Int) ∧ wrap64 ((n : Int) + (x : Int)) = (s : Int) ∧
      (0 : Int) ≤ (n : Int) ∧ (n : Int) ≤ (s : Int) ∧ (s : Int) ≤ (cap : Int) ∧ (s : Int) ≤ (L : Int) ∧ (0 : Int) ≤ (s : Int) ∧ s - n = x :=
    ⟨IntWalk.u64_in _ (by omega), IntWalk.wrap64_in _ (by omega), by rw [show (L : Int) - (n : Int) = (d : Int) by omega]; exact IntWalk.wrap64_in _ (by omega), by rw [show (n : Int) + (x : Int) = (s : Int) by omega]; exact IntWalk.wrap64_in _ (by omega), by omega, by omega, by omega, by omega, by omega, by omega⟩
  clear hr4 hf4 hk4 hd hxd hnl hlc hrd hyb hyl f0 hmb hcb hx HQ0 hs
  go_enter Tryd.func65, Tryd.ntmps65
  go_wp2_with fail
  refine (HC.out).mono ?_
  rintro e w' ⟨-, hh⟩
  obtain ⟨rfl, rfl⟩ := hh HN.out
  clear hh
  go_wp2_with (at_builtin; refine wpList_append_run (by rfl) _ _ _ _ rfl _ _ rfl rfl R4.out ?_)
  go_wp2_with fail
  go_ret
  exact ⟨_, _, rfl, HF4.out, HK4.out, by simp⟩

theorem sub_reads {w : World} {g off cap L n x : Nat} {xs : List Nat} (h3 : g < w.heap.size) (h2 : cap ≤ maxLen) (h1 : xs.length ≤ cap) (h4 : ∀ i, i < xs.length → w.cell? ⟨g, off + i, none⟩ = some (.int .u8 (xs.getD i 0 : Nat))) (hn : n + x ≤ xs.length) (a : Nat) (ha : x = 0 ∨ a = off + n) :
    Reads w (.slice (some ⟨g, a, none⟩) x (cap - n)) ((xs.drop n).take x) := by
  have hl : ((xs.drop n).take x).length = x := by simp; omega
  refine Or.inr ⟨g, a, cap - n, by rw [hl], by omega, by omega, h3, fun i hi => ?_⟩
  rw [hl] at hi
  rcases ha with e | rfl
  · omega
  · rw [Nat.add_assoc, h4 (n + i) (by omega)]
    simp [List.getD, hi]

set_option maxHeartbeats 800000 in
/-- What the reference's Bytes gives: a new copy of the piece. -/
theorem mbytes_any (w : World) (mb : Nat) (v : Value) (xs : List Nat) (err most : Int) (hmost : most < 9223372036854775808) (h : Rd w mb v xs err) (hby : ∀ b ∈ xs, b < 256) (hl : (pieceS xs most err).1.length ≤ 1000000) :
    Calls Tryd.prog 65 #[.pointer (some ⟨mb, 0, none⟩), .int .i64 most] w fun e w' => ∃ q v', e = .returned q ∧ Reads w' q (pieceS xs most err).1 ∧ (∀ k, q.ownBlock = some k → w.heap.size ≤ k) ∧
      Rd w' mb v' (pieceS xs most err).2.1 (pieceS xs most err).2.2 ∧ v'.ownBlock = v.ownBlock ∧ Kept (fun k => k = mb) w w' := by
  have nil : Reads w (.slice none 0 0) [] := Or.inl ⟨rfl, rfl⟩
  by_cases he : err = 0
  · subst he
    by_cases hm0 : most < 0
    · rw [show pieceS xs most 0 = ([], xs, 1) by unfold pieceS; rw [if_neg (by simp), if_pos hm0]]
      refine (mbytes_neg w mb most h.cell1 h.free1 hm0).mono ?_
      rintro e w' ⟨rfl, rfl⟩
      exact ⟨_, v, rfl, Or.inl ⟨rfl, rfl⟩, fun k hk => by simp [Value.ownBlock] at hk, h.setErr 1, rfl, Kept.setCell _ _ _ _ rfl⟩
    obtain ⟨m, rfl⟩ := Int.eq_ofNat_of_zero_le (show 0 ≤ most by omega)
    have hmb : m < 9223372036854775808 := by omega
    obtain ⟨⟨x, n⟩, hq⟩ : ∃ q, q = numberS xs := ⟨_, rfl⟩
    have HC : Hid (NumAns w mb x n) := rnum_any w mb v xs x n h hby hq.symm
    have hle := numberS_le xs
    have hP : pieceS xs m 0 = if n = 0 then ([], xs, 6) else if (m : Int) < (x : Int) then ([], xs, 3) else if xs.length - n < x then ([], xs, 6) else ((xs.drop n).take x, xs.drop (n + x), 0) := by
      unfold pieceS; rw [if_neg (by simp), if_neg hm0, ← hq]
    rw [← hq] at hle
    simp only at hle
    by_cases hn : n = 0
    · subst hn
      rw [hP, if_pos rfl]
      refine (mbytes_none w mb m x hmb h.cell1 h.free1 HC).mono ?_
      rintro e w' ⟨rfl, rfl⟩
      exact ⟨_, v, rfl, Or.inl ⟨rfl, rfl⟩, fun k hk => by simp [Value.ownBlock] at hk, h.setErr 6, rfl, Kept.setCell _ _ _ _ rfl⟩
    rw [if_neg hn] at hP
    by_cases hx : (m : Int) < (x : Int)
    · rw [hP, if_pos hx]
      refine (mbytes_lim w mb m x n hmb h.cell1 h.free1 HC hn hx).mono ?_
      rintro e w' ⟨rfl, rfl⟩
      exact ⟨_, v, rfl, Or.inl ⟨rfl, rfl⟩, fun k hk => by simp [Value.ownBlock] at hk, h.setErr 3, rfl, Kept.setCell _ _ _ _ rfl⟩
    rw [if_neg hx] at hP
    have hR := h.reads
    rcases h.reads with ⟨rfl, rfl⟩ | ⟨g, off, cap, rfl, h1, h2, h3, h4⟩
    · exact absurd (congrArg Prod.snd hq) hn
    have hap : g ≠ mb := fun e => h.apart (by simp [Value.ownBlock, e])
    have hcb : cap ≤ 9223372036854775807 := by unfold maxLen at h2; omega
    obtain ⟨d, hd⟩ : ∃ d, xs.length = n + d := ⟨xs.length - n, by omega⟩
    by_cases hs : xs.length - n < x
    · rw [hP, if_pos hs]
      refine (mbytes_short w mb m x n hmb h.cell1 h.free1 HC hn g off cap xs.length d h.cell0 (by omega) hle hd h1 hcb (by omega)).mono ?_
      rintro e w' ⟨rfl, rfl⟩
      exact ⟨_, _, rfl, Or.inl ⟨rfl, rfl⟩, fun k hk => by simp [Value.ownBlock] at hk, h.setErr 6, rfl, Kept.setCell _ _ _ _ rfl⟩
    rw [if_neg hs] at hP
    rw [hP] at hl ⊢
    have hyl : ((xs.drop n).take x).length = x := by simp; omega
    rw [show ((xs.drop n).take x, xs.drop (n + x), (0 : Int)).1 = (xs.drop n).take x from rfl, hyl] at hl
    have fin : ∀ (a : Nat) (u : Value) (w1 : World), (xs.length - (n + x) = 0 ∨ a = off + (n + x)) → Fresh w1 w.heap.size u ((xs.drop n).take x) → Kept (fun _ => False) w w1 →
        ∃ q v', Ending.returned u = .returned q ∧ Reads (w1.setCell ⟨mb, 0, none⟩ (.slice (some ⟨g, a, none⟩) (xs.length - (n + x) : Nat) (cap - (n + x) : Nat))) q ((xs.drop n).take x) ∧ (∀ k, q.ownBlock = some k → w.heap.size ≤ k) ∧
          Rd (w1.setCell ⟨mb, 0, none⟩ (.slice (some ⟨g, a, none⟩) (xs.length - (n + x) : Nat) (cap - (n + x) : Nat))) mb v' (xs.drop (n + x)) 0 ∧ v'.ownBlock = some g ∧ Kept (fun k => k = mb) w (w1.setCell ⟨mb, 0, none⟩ (.slice (some ⟨g, a, none⟩) (xs.length - (n + x) : Nat) (cap - (n + x) : Nat))) := by
      intro a u w1 ha hf hk
      have hlt := h.lt
      have hrd : Reads w1 (.slice (some ⟨g, a, none⟩) (xs.length - (n + x) : Nat) (cap - (n + x) : Nat)) (xs.drop (n + x)) := by
        have hl2 : (xs.drop (n + x)).length = xs.length - (n + x) := by simp
        refine Or.inr ⟨g, a, cap - (n + x), by rw [hl2], by omega, by omega, Nat.lt_of_lt_of_le h3 hk.size, fun i hi => ?_⟩
        rw [hl2] at hi
        rcases ha with e | rfl
        · omega
        · rw [Nat.add_assoc, hk.cell (p := ⟨g, off + (n + x + i), none⟩) h3 (fun h => h), h4 (n + x + i) (by omega)]
          simp [List.getD]
      have h' := h.kept hk (fun h => h) (fun _ _ h => h)
      exact ⟨u, _, rfl, hf.reads.kept (Kept.setCell (fun k => k = mb) _ _ _ rfl) (fun k hk' e => by have := hf.block k hk'; omega), hf.block, h'.setLeft hrd (by simpa [Value.ownBlock] using hap), rfl,
        (hk.trans (Kept.setCell (fun k => k = mb) _ _ _ rfl) (fun _ _ h => h.elim) (fun _ _ h => h))⟩
    by_cases hnc : n = cap
    · refine (mbytes_in_a w mb m x n hmb h.cell1 HC hn g off cap xs.length d h.cell0 (by omega) hle hd h1 hcb _ hyl (by omega) h.free0 (by omega) hnc (sub_reads (L := 0) h3 h2 h1 h4 (by omega) _ (Or.inl (by omega)))).mono ?_
      rintro e w' ⟨u, w1, rfl, hf, hk, rfl⟩
      exact fin off u w1 (Or.inl (by omega)) hf hk
    · by_cases hsc : n + x = cap
      · refine (mbytes_in_b w mb m x n hmb h.cell1 HC hn g off cap xs.length d h.cell0 (by omega) hle hd h1 hcb _ hyl (by omega) h.free0 (by omega) hnc hsc (sub_reads (L := 0) h3 h2 h1 h4 (by omega) _ (Or.inr rfl))).mono ?_
        rintro e w' ⟨u, w1, rfl, hf, hk, rfl⟩
        exact fin off u w1 (Or.inl (by omega)) hf hk
      · refine (mbytes_in_c w mb m x n hmb h.cell1 HC hn g off cap xs.length d h.cell0 (by omega) hle hd h1 hcb _ hyl (by omega) h.free0 (by omega) hnc hsc (sub_reads (L := 0) h3 h2 h1 h4 (by omega) _ (Or.inr rfl))).mono ?_
        rintro e w' ⟨u, w1, rfl, hf, hk, rfl⟩
        exact fin _ u w1 (Or.inr rfl) hf hk
  · rw [show pieceS xs most err = ([], xs, err) from if_pos he]
    refine (mbytes_bad w mb most err h.cell1 (by simpa using he) (by simpa using he)).mono ?_
    rintro e w' ⟨rfl, rfl⟩
    exact ⟨_, v, rfl, nil, fun k hk => by simp [Value.ownBlock] at hk, h, rfl, Kept.refl _ _⟩
end Go.Proofs.YtnmcihfegbdipaaDoor
