/-
  Layer 2: Raw and End of the reference's reader, Raw of the program's.
-/
import Derived.Test.YtnmcihfegbdipaaDoorRfB
namespace Go.Proofs.YtnmcihfegbdipaaDoor
open Go.RowKit
set_option linter.unusedVariables false

/-- What 'Raw' gives. -/
def rawS (xs : List Nat) (n err : Int) : List Nat × List Nat × Int :=
  if err ≠ 0 then ([], xs, err) else if n < 0 then ([], xs, 1) else if (xs.length : Int) < n then ([], xs, 6) else (xs.take n.toNat, xs.drop n.toNat, 0)

set_option maxRecDepth 100000 in
set_option maxHeartbeats 800000 in
theorem mraw_bad (w : World) (mb : Nat) (n err : Int) (c1 : w.cell? ⟨mb, 1, none⟩ = some (.int .i64 err)) (he : (err == 0) = false) (he2 : (err != 0) = true) :
    Calls Tryd.prog 70 #[.pointer (some ⟨mb, 0, none⟩), .int .i64 n] w fun e w' => e = .returned (.slice none 0 0) ∧ w = w' := by
  go_enter Tryd.func70, Tryd.ntmps70
  go_wp2_with fail
  go_ret
  exact ⟨rfl, rfl⟩
set_option maxRecDepth 100000 in
set_option maxHeartbeats 800000 in
theorem mraw_neg (w : World) (mb : Nat) (n : Int) (c1 : w.cell? ⟨mb, 1, none⟩ = some (.int .i64 0)) (f1 : w.frozen? ⟨mb, 1, none⟩ = false) (hn : n < 0) :
    Calls Tryd.prog 70 #[.pointer (some ⟨mb, 0, none⟩), .int .i64 n] w fun e w' => e = .returned (.slice none 0 0) ∧ w' = w.setCell ⟨mb, 1, none⟩ (.int .i64 1) := by
  go_enter Tryd.func70, Tryd.ntmps70
  go_wp2_with fail
  go_ret
  exact ⟨rfl, rfl⟩
set_option maxRecDepth 100000 in
set_option maxHeartbeats 800000 in
theorem mraw_short (w : World) (mb L c : Nat) (a : Option Addr) (n : Int) (c1 : w.cell? ⟨mb, 1, none⟩ = some (.int .i64 0)) (f1 : w.frozen? ⟨mb, 1, none⟩ = false) (c0 : w.cell? ⟨mb, 0, none⟩ = some (.slice a L c)) (hn0 : ¬ n < 0) (hn : (L : Int) < n) :
    Calls Tryd.prog 70 #[.pointer (some ⟨mb, 0, none⟩), .int .i64 n] w fun e w' => e = .returned (.slice none 0 0) ∧ w' = w.setCell ⟨mb, 1, none⟩ (.int .i64 6) := by
  go_enter Tryd.func70, Tryd.ntmps70
  go_wp2_with fail
  go_ret
  exact ⟨rfl, rfl⟩
set_option maxRecDepth 100000 in
set_option maxHeartbeats 800000 in
theorem mraw_nil (w : World) (mb : Nat) (c1 : w.cell? ⟨mb, 1, none⟩ = some (.int .i64 0)) (c0 : w.cell? ⟨mb, 0, none⟩ = some (.slice none 0 0)) (f0 : w.frozen? ⟨mb, 0, none⟩ = false) :
    Calls Tryd.prog 70 #[.pointer (some ⟨mb, 0, none⟩), .int .i64 0] w fun e w' => ∃ u w1, e = .returned u ∧ Fresh w1 w.heap.size u [] ∧ Kept (fun _ => False) w w1 ∧ w' = w1.setCell ⟨mb, 0, none⟩ (.slice none 0 0) := by
  have hblt : mb < w.heap.size := World.block_lt_of_cell? w _ c0
  obtain ⟨a4, c4, w4, hr4, hf4, hk4⟩ := copy_run (w := w) (y := .slice none 0 0) (ys := []) (Or.inl ⟨rfl, rfl⟩) (by simp)
  have R4 := Lib.hid hr4; have HF4 := Lib.hid hf4; have HK4 := Lib.hid hk4
  have d0 := (hk4.cell (p := ⟨mb, 0, none⟩) hblt (fun h => h)).trans c0
  have g0 := (hk4.frozen (p := ⟨mb, 0, none⟩) hblt (fun h => h)).trans f0
  clear hr4 hf4 hk4 f0
  go_enter Tryd.func70, Tryd.ntmps70
  go_wp2_with (at_builtin; refine wpList_append_run (by rfl) _ _ _ _ rfl _ _ rfl rfl R4.out ?_)
  go_wp2_with fail
  go_ret
  exact ⟨_, _, rfl, HF4.out, HK4.out, rfl⟩
set_option maxRecDepth 100000 in
set_option maxHeartbeats 800000 in
theorem mraw_in (w : World) (mb g off n L cap : Nat) (ys : List Nat) (hyl : ys.length = n) (hyb : n ≤ 1000000) (c1 : w.cell? ⟨mb, 1, none⟩ = some (.int .i64 0)) (c0 : w.cell? ⟨mb, 0, none⟩ = some (.slice (some ⟨g, off, none⟩) L cap)) (f0 : w.frozen? ⟨mb, 0, none⟩ = false)
    (hnl : n ≤ L) (hlc : L ≤ cap) (hcb : cap ≤ 9223372036854775807) (hrd : Reads w (.slice (some ⟨g, off, none⟩) n cap) ys) :
    Calls Tryd.prog 70 #[.pointer (some ⟨mb, 0, none⟩), .int .i64 n] w fun e w' => ∃ u w1, e = .returned u ∧ Fresh w1 w.heap.size u ys ∧ Kept (fun _ => False) w w1 ∧ w' = w1.setCell ⟨mb, 0, none⟩ (.slice (some ⟨g, if n = cap then off else off + n, none⟩) (L - n : Nat) (cap - n : Nat)) := by
  have hblt : mb < w.heap.size := World.block_lt_of_cell? w _ c0
  obtain ⟨a4, c4, w4, hr4, hf4, hk4⟩ := copy_run hrd (by omega)
  rw [hyl] at hr4 hf4
  have R4 := Lib.hid hr4; have HF4 := Lib.hid hf4; have HK4 := Lib.hid hk4
  have d0 := (hk4.cell (p := ⟨mb, 0, none⟩) hblt (fun h => h)).trans c0
  have g0 := (hk4.frozen (p := ⟨mb, 0, none⟩) hblt (fun h => h)).trans f0
  clear hr4 hf4 hk4 f0 hrd hyl hyb
  have hn0 : ¬ (n : Int) < 0 := by omega
  have hn1 : ¬ (L : Int) < (n : Int) := by omega
  have hn2 : (0 : Int) ≤ (n : Int) := by omega
  have hn3 : (n : Int) ≤ (L : Int) := by omega
  have hn4 : (n : Int) ≤ (cap : Int) := by omega
  by_cases hnc : n = cap
  · have hln : L = n := by omega
    subst hln
    subst hnc
    rw [if_pos rfl]
    clear hnl hlc hn1 hn3 hn4
    go_enter Tryd.func70, Tryd.ntmps70
    go_wp2_with (at_builtin; refine wpList_append_run (by rfl) _ _ _ _ rfl _ _ rfl rfl R4.out ?_)
    go_wp2_with fail
    go_ret
    exact ⟨_, rfl, w4, HF4.out, HK4.out, by first | rfl | simp⟩
  · have hcn : ¬ cap = n := fun e => hnc e.symm
    rw [if_neg hnc]
    clear hnl hlc
    go_enter Tryd.func70, Tryd.ntmps70
    go_wp2_with (at_builtin; refine wpList_append_run (by rfl) _ _ _ _ rfl _ _ rfl rfl R4.out ?_)
    go_wp2_with fail
    go_ret
    exact ⟨_, rfl, w4, HF4.out, HK4.out, by first | rfl | simp⟩

set_option maxHeartbeats 800000 in
theorem mraw_any (w : World) (mb : Nat) (v : Value) (xs : List Nat) (err n : Int) (h : Rd w mb v xs err) (hl : xs.length ≤ 1000000) :
    Calls Tryd.prog 70 #[.pointer (some ⟨mb, 0, none⟩), .int .i64 n] w fun e w' => ∃ q v', e = .returned q ∧ Reads w' q (rawS xs n err).1 ∧ (∀ k, q.ownBlock = some k → w.heap.size ≤ k) ∧
      Rd w' mb v' (rawS xs n err).2.1 (rawS xs n err).2.2 ∧ v'.ownBlock = v.ownBlock ∧ Kept (fun k => k = mb) w w' := by
  have hlt := h.lt
  by_cases he : err = 0
  · subst he
    by_cases hn0 : n < 0
    · rw [show rawS xs n 0 = ([], xs, 1) by unfold rawS; rw [if_neg (by simp), if_pos hn0]]
      refine (mraw_neg w mb n h.cell1 h.free1 hn0).mono ?_
      rintro e w' ⟨rfl, rfl⟩
      exact ⟨_, v, rfl, Or.inl ⟨rfl, rfl⟩, fun k hk => by simp [Value.ownBlock] at hk, h.setErr 1, rfl, Kept.setCell _ _ _ _ rfl⟩
    by_cases hs : (xs.length : Int) < n
    · rw [show rawS xs n 0 = ([], xs, 6) by unfold rawS; rw [if_neg (by simp), if_neg hn0, if_pos hs]]
      obtain ⟨a, c, rfl⟩ := h.reads.formR8
      refine (mraw_short w mb xs.length c a n h.cell1 h.free1 h.cell0 hn0 hs).mono ?_
      rintro e w' ⟨rfl, rfl⟩
      exact ⟨_, _, rfl, Or.inl ⟨rfl, rfl⟩, fun k hk => by simp [Value.ownBlock] at hk, h.setErr 6, rfl, Kept.setCell _ _ _ _ rfl⟩
    obtain ⟨m, rfl⟩ := Int.eq_ofNat_of_zero_le (show 0 ≤ n by omega)
    rw [show rawS xs m 0 = (xs.take m, xs.drop m, 0) by unfold rawS; rw [if_neg (by simp), if_neg hn0, if_neg hs, Int.toNat_natCast]]
    have hml : m ≤ xs.length := by omega
    have hR := h.reads
    rcases h.reads with ⟨rfl, rfl⟩ | ⟨g, off, cap, rfl, h1, h2, h3, h4⟩
    · obtain rfl : m = 0 := by simpa using hml
      refine (mraw_nil w mb h.cell1 h.cell0 h.free0).mono ?_
      rintro e w' ⟨u, w1, rfl, hf, hk, rfl⟩
      have h' := h.kept hk (fun h => h) (fun _ _ h => h)
      exact ⟨u, _, rfl, hf.reads.kept (Kept.setCell (fun k => k = mb) _ _ _ rfl) (fun k hk' e => by have := hf.block k hk'; omega), hf.block, h'.setLeft (Or.inl ⟨rfl, rfl⟩) (by simp [Value.ownBlock]), rfl,
        (hk.trans (Kept.setCell (fun k => k = mb) _ _ _ rfl) (fun _ _ h => h.elim) (fun _ _ h => h))⟩
    · have hap : g ≠ mb := fun e => h.apart (by simp [Value.ownBlock, e])
      have hcb : cap ≤ 9223372036854775807 := by unfold maxLen at h2; omega
      have hlt2 : (xs.take m).length = m := by simp; omega
      have hrd : Reads w (.slice (some ⟨g, off, none⟩) m cap) (xs.take m) := Or.inr ⟨g, off, cap, by rw [hlt2], by omega, h2, h3, fun i hi => by
        rw [hlt2] at hi
        rw [h4 i (by omega)]
        simp [List.getD, hi]⟩
      refine (mraw_in w mb g off m xs.length cap _ hlt2 (by omega) h.cell1 h.cell0 h.free0 hml h1 hcb hrd).mono ?_
      rintro e w' ⟨u, w1, rfl, hf, hk, rfl⟩
      have h' := h.kept hk (fun h => h) (fun _ _ h => h)
      have hrd2 : Reads w1 (.slice (some ⟨g, if m = cap then off else off + m, none⟩) (xs.length - m : Nat) (cap - m : Nat)) (xs.drop m) := by
        have hl2 : (xs.drop m).length = xs.length - m := by simp
        refine Or.inr ⟨g, _, cap - m, by rw [hl2], by omega, by omega, Nat.lt_of_lt_of_le h3 hk.size, fun i hi => ?_⟩
        rw [hl2] at hi
        rw [if_neg (by omega), Nat.add_assoc, hk.cell (p := ⟨g, off + (m + i), none⟩) h3 (fun h => h), h4 (m + i) (by omega)]
        simp [List.getD]
      exact ⟨u, _, rfl, hf.reads.kept (Kept.setCell (fun k => k = mb) _ _ _ rfl) (fun k hk' e => by have := hf.block k hk'; omega), hf.block, h'.setLeft hrd2 (by simpa [Value.ownBlock] using hap), rfl,
        (hk.trans (Kept.setCell (fun k => k = mb) _ _ _ rfl) (fun _ _ h => h.elim) (fun _ _ h => h))⟩
  · rw [show rawS xs n err = ([], xs, err) from if_pos he]
    refine (mraw_bad w mb n err h.cell1 (by simpa using he) (by simpa using he)).mono ?_
    rintro e w' ⟨rfl, rfl⟩
    exact ⟨_, v, rfl, Or.inl ⟨rfl, rfl⟩, fun k hk => by simp [Value.ownBlock] at hk, h, rfl, Kept.refl _ _⟩

set_option maxRecDepth 100000 in
set_option maxHeartbeats 800000 in
theorem mend_any (w : World) (mb : Nat) (v : Value) (xs : List Nat) (err : Int) (h : Rd w mb v xs err) :
    Calls Tryd.prog 27 #[.pointer (some ⟨mb, 0, none⟩)] w fun e w' => e = .returned (.int .i64 (if err = 0 ∧ 0 < xs.length then 6 else err)) ∧ w = w' := by
  obtain ⟨a, c, rfl⟩ := h.reads.formR8
  have c0 := h.cell0; have c1 := h.cell1
  clear h
  generalize xs.length = L at *
  by_cases he : err = 0
  · subst he
    by_cases hL : 0 < L
    · rw [if_pos ⟨rfl, hL⟩]
      have hL' : (0 : Int) < (L : Int) := by omega
      go_enter Tryd.func27, Tryd.ntmps27
      go_wp2_with fail
      go_ret
      exact ⟨rfl, rfl⟩
    · rw [if_neg (fun h => hL h.2)]
      have hL' : ¬ (0 : Int) < (L : Int) := by omega
      go_enter Tryd.func27, Tryd.ntmps27
      go_wp2_with fail
      go_ret
      exact ⟨rfl, rfl⟩
  · rw [if_neg (fun h => he h.1)]
    have he1 : (err == 0) = false := by simpa using he
    clear he
    go_enter Tryd.func27, Tryd.ntmps27
    go_wp2_with fail
    go_ret
    exact ⟨rfl, rfl⟩

set_option maxRecDepth 100000 in
set_option maxHeartbeats 800000 in
theorem wraw_any (w : World) (rb : Nat) (v : Value) (xs : List Nat) (err n : Int) (h : Rd w rb v xs err) (hl : xs.length ≤ 1000000) :
    Calls Tryd.prog 69 #[.pointer (some ⟨rb, 0, none⟩), .int .i64 n] w fun e w' => ∃ q v', e = .returned q ∧ Reads w' q (rawS xs n err).1 ∧ (∀ k, q.ownBlock = some k → w.heap.size ≤ k) ∧
      Rd w' rb v' (rawS xs n err).2.1 (rawS xs n err).2.2 ∧ v'.ownBlock = v.ownBlock ∧ Kept (fun k => k = rb) w w' := by
  have hrf := readyFor_any w rb v xs err n h
  by_cases hf : forErr n err = 0
  · have hen : err = 0 ∧ ¬ n < 0 := by
      unfold forErr at hf
      by_cases hc : n < 0 ∧ err = 0
      · rw [if_pos hc] at hf; exact absurd hf (by decide)
      · rw [if_neg hc] at hf
        exact ⟨hf, fun h => hc ⟨h, hf⟩⟩
    obtain ⟨rfl, hn0⟩ := hen
    rw [hf, show decide ((0 : Int) = 0) = true from rfl] at hrf
    have HRF := Lib.hid hrf
    clear hrf hf
    by_cases hs : (xs.length : Int) < n
    · rw [show rawS xs n 0 = ([], xs, 6) by unfold rawS; rw [if_neg (by simp), if_neg hn0, if_pos hs]]
      obtain ⟨a, c, rfl⟩ := h.reads.formR8
      clear h
      go_enter Tryd.func69, Tryd.ntmps69
      go_wp2_with fail
      refine HRF.out.mono ?_
      rintro e w1 ⟨rfl, hr1, hk1⟩
      have c0 := hr1.cell0; have c1 := hr1.cell1; have f1 := hr1.free1
      have HR1 := Lib.hid hr1; have HK1 := Lib.hid hk1
      clear hr1 hk1
      go_wp2_with fail
      go_ret
      exact ⟨_, _, rfl, Or.inl ⟨rfl, rfl⟩, fun k hk => by simp [Value.ownBlock] at hk, HR1.out.setErr 6, rfl, HK1.out.trans (Kept.setCell (fun k => k = rb) _ _ _ rfl) (fun _ _ h => h) (fun _ _ h => h)⟩
    · obtain ⟨m, rfl⟩ := Int.eq_ofNat_of_zero_le (show 0 ≤ n by omega)
      rw [show rawS xs m 0 = (xs.take m, xs.drop m, 0) by unfold rawS; rw [if_neg (by simp), if_neg hn0, if_neg hs, Int.toNat_natCast]]
      have hml : m ≤ xs.length := by omega
      have hvlt := h.reads.lt
      obtain ⟨a, c, rfl⟩ := h.reads.formR8
      have HML := Lib.hid hml; have HL := Lib.hid hl; have HVLT := Lib.hid hvlt
      clear h hml hl hvlt
      go_enter Tryd.func69, Tryd.ntmps69
      go_wp2_with fail
      refine HRF.out.mono ?_
      rintro e w1 ⟨rfl, hr1, hk1⟩
      have c0 := hr1.cell0
      have HR1 := Lib.hid hr1; have HK1 := Lib.hid hk1
      clear hr1 hk1
      go_wp2_with fail
      refine (take_any w1 rb _ xs 0 m HR1.out HML.out).mono ?_
      rintro e w2 ⟨p, v', rfl, hr2, hp, hv, hpb, hk2⟩
      have HR2 := Lib.hid hr2; have HP := Lib.hid hp; have HV := Lib.hid hv; have HK2 := Lib.hid hk2
      clear hr2 hp hv hpb hk2 c0
      go_wp2_with fail
      refine (clone_any p _ w2 HP.out (by have := HL.out; simp; omega)).mono ?_
      rintro e w3 ⟨q, rfl, hf3, hk3⟩
      have HF3 := Lib.hid hf3; have HK3 := Lib.hid hk3
      clear hf3 hk3
      go_wp2_with fail
      go_ret
      refine ⟨q, v', rfl, HF3.out.reads, fun k hk => Nat.le_trans (Nat.le_trans HK1.out.size HK2.out.size) (HF3.out.block k hk), HR2.out.kept HK3.out (fun h => h) (fun _ _ h => h), HV.out, (HK1.out.trans HK2.out (fun _ _ h => h) (fun _ _ h => h)).trans HK3.out (fun _ _ h => h) (fun _ _ h => h.elim)⟩
  · have hR : rawS xs n err = ([], xs, forErr n err) := by
      unfold rawS forErr
      by_cases he : err = 0
      · subst he
        rw [if_neg (by simp)]
        by_cases hn : n < 0
        · rw [if_pos hn, if_pos ⟨hn, rfl⟩]
        · exact absurd (if_neg (fun h => hn h.1)) hf
      · rw [if_pos he, if_neg (fun h => he h.2)]
    rw [hR]
    rw [decide_eq_false hf] at hrf
    have HRF := Lib.hid hrf
    clear hrf hf h hR
    generalize forErr n err = e2 at HRF ⊢
    go_enter Tryd.func69, Tryd.ntmps69
    go_wp2_with fail
    refine HRF.out.mono ?_
    rintro e w1 ⟨rfl, hr1, hk1⟩
    have HR1 := Lib.hid hr1; have HK1 := Lib.hid hk1
    clear hr1 hk1
    go_wp2_with fail
    go_ret
    exact ⟨_, v, rfl, Or.inl ⟨rfl, rfl⟩, fun k hk => by simp [Value.ownBlock] at hk, HR1.out, rfl, HK1.out⟩
end Go.Proofs.YtnmcihfegbdipaaDoor
