/-
  Rows of entries of the call's own, whatever the type of the entries: append of entries; slices.Grow of nil, slices.Concat; Entries, Len.
-/
import Derived.Test.YtccanbjnbmihgaaDoorMbN
import Derived.Test.YtccanbjnbmihgaaDoorMbA
import Derived.Test.YtccanbjnbmihgaaDoorBRw
import Derived.Lib.AppendZerosOnto
namespace Go.Proofs.YtccanbjnbmihgaaDoor
open Go.RowKit Go.Shelf
set_option linter.unusedVariables false
set_option linter.unusedSimpArgs false

/-- An append of entries that read. -/
theorem append_ents_run {ts te : TypeId} (hu : Tryd.prog.underlying ts = some (.slice te)) (hie : (Tryd.prog.info? te).map (fun i => (i.zero, i.size, i.bytes)) = some (some (.agg #[.int .i64 0, .int .i64 0, .int .i64 0]), 3, 24))
    {W : World} {B : Nat} {v y : Value} {xs ys : List Ent} (h : OwnE te B W v xs) (hy : Ents W y ys) (hl : xs.length + ys.length ≤ 1000000) (hB : B ≤ W.heap.size) :
    ∃ a c w', (Builtin.append_ #[ts, ts] ts #[v, y]).run Tryd.prog W = .ok (.slice a (xs ++ ys).length c) w' ∧ OwnE te B w' (.slice a (xs ++ ys).length c) (xs ++ ys) ∧ Kept (fun k => v.ownBlock = some k) W w' := by
  obtain ⟨i0, hi, hz0, hz1, hz2⟩ := info_parts hie
  have key : ∃ v' w', (Builtin.append_ #[ts, ts] ts #[v, y]).run Tryd.prog W = .ok v' w' ∧ OwnE te B w' v' (xs ++ ys) ∧ Kept (fun k => v.ownBlock = some k) W w' := by
    have hy0 := hy
    rcases hy with ⟨rfl, rfl⟩ | ⟨g, off, cap, rfl, h1, h2, h3, h4⟩
    · exact ⟨v, W, run_append_owned_none W B ts ts te i0 3 hu hi v _ _ h, by rw [List.append_nil]; exact h, Kept.refl _ _⟩
    · have hcells : ∀ j u, (flatE ys)[j]? = some u → W.cell? ((⟨g, off, none⟩ : Addr).add j) = some u := fun j u hu => by
        have hadd : (⟨g, off, none⟩ : Addr).add j = ⟨g, off + j, none⟩ := by unfold Addr.add; split <;> simp_all
        rw [hadd]
        exact hy0.flat j u hu
      obtain ⟨v', w', hr, ho, hg, _, hat⟩ := run_append_own_at (P := Tryd.prog) W B ts ts te i0 _ 3 24 hu hi hz0 hz1 hz2 rfl (by omega) v xs.length (flatE xs) h ⟨g, off, none⟩ ys.length cap (flatE ys)
        (flatE_length ys) hcells (flatE_one ys) (by unfold maxLen; omega) (by omega) hB
      exact ⟨v', w', hr, by unfold OwnE; rw [List.length_append, flatE_append]; exact ho, Kept.ofGrown hg fun k e => e⟩
  obtain ⟨v', w', hr, hf, hk⟩ := key
  obtain ⟨a, c, rfl, _, _⟩ := hf.form
  exact ⟨a, c, w', hr, hf, hk⟩

theorem One.ents {w : World} {p : Nat} {x : Ent} (h : One w p x) : Ents w (.slice (some ⟨p, 0, none⟩) 1 1) [x] := by
  obtain ⟨T, h0⟩ := h
  refine Or.inr ⟨p, 0, 1, rfl, Nat.le_refl _, by unfold maxLen; omega, World.block_lt_of_cell? w _ (One.at ⟨T, h0⟩).c0, fun i hi => ?_⟩
  obtain rfl : i = 0 := by simpa using hi
  exact One.at ⟨T, h0⟩

theorem growE_row (w : World) (n c : Nat) (hc : c ≤ maxLen) (hn : n ≤ c) :
    OwnE 87 w.heap.size (w.drew.alloc (.cells (Builtin.zeroCells (Value.agg #[.int .i64 0, .int .i64 0, .int .i64 0]).cells n ++ Builtin.zeroCells (Value.agg #[.int .i64 0, .int .i64 0, .int .i64 0]).cells (c - n)) 87)) (.slice (some ⟨w.heap.size, 0, none⟩) 0 c) [] := by
  refine ⟨by simp [flatE], Or.inr ⟨w.heap.size, c, _, rfl, Nat.le_refl _, heap_alloc_new w.drew _, Nat.zero_le _, hc, ?_, ?_⟩⟩
  · rw [Array.size_append, size_zeroCells, size_zeroCells, show (Value.agg #[.int .i64 0, .int .i64 0, .int .i64 0]).cells.size = 3 from rfl]; omega
  · simp [flatE]

set_option maxRecDepth 100000 in
set_option maxHeartbeats 800000 in
theorem growE_any (n : Nat) (w : World) (hn : n ≤ 1000000) :
    Calls Tryd.prog 95 #[.slice none 0 0, .int .i64 n] w fun e w' => ∃ v', e = .returned v' ∧ OwnE 87 w.heap.size w' v' [] ∧ Kept (fun _ => False) w w' := by
  obtain ⟨i0, hi, hz0, hz1, hz2⟩ := info_parts info_ent
  by_cases h0 : n = 0
  · subst h0
    go_enter Tryd.func95, Tryd.ntmps95
    go_wp2_with fail
    go_ret
    exact ⟨_, rfl, OwnE.nil _ _ _, Kept.refl _ _⟩
  · have h1 : ¬ (n : Int) < 0 := by omega
    have h2 : (0 : Int) < n := by omega
    have hr := Lib.run_append_nil_zeros (P := Tryd.prog) w 85 3 85 87 i0 _ .i64 .i64 Tryd.underlying85 Tryd.underlying3 hi hz0 n (by omega) (by omega) (by omega) (by rw [hz2]; omega)
    have hge := grownCap_ge w n 0 87
    have hle := grownCap_le_maxLen w n 0 87 (by unfold maxLen; omega)
    have hrow := growE_row w n (grownCap w n 0 87) hle hge
    have hk : Kept (fun _ => False) w (w.drew.alloc (.cells (Builtin.zeroCells (Value.agg #[.int .i64 0, .int .i64 0, .int .i64 0]).cells n ++ Builtin.zeroCells (Value.agg #[.int .i64 0, .int .i64 0, .int .i64 0]).cells (grownCap w n 0 87 - n)) 87)) := (Kept.refl (fun _ => False) w).drew.then (Kept.alloc _ _ _)
    generalize w.drew.alloc (.cells (Builtin.zeroCells (Value.agg #[.int .i64 0, .int .i64 0, .int .i64 0]).cells n ++ Builtin.zeroCells (Value.agg #[.int .i64 0, .int .i64 0, .int .i64 0]).cells (grownCap w n 0 87 - n)) 87) = w1 at hr hrow hk
    generalize grownCap w n 0 87 = gc at *
    have HR := Lib.hid hr; have HROW := Lib.hid hrow; have HK := Lib.hid hk
    clear hr hrow hk
    go_enter Tryd.func95, Tryd.ntmps95
    go_wp2_with (at_builtin; refine wpList_appendI_run (by rfl) _ _ _ _ rfl _ _ rfl rfl HR.out ?_)
    go_ret
    exact ⟨_, rfl, HROW.out, HK.out⟩

def catTo (H : Nat → List Ent) (k : Nat) : List Ent := (List.range k).flatMap H
theorem catTo_succ (H : Nat → List Ent) (k : Nat) : catTo H (k + 1) = catTo H k ++ H k := by
  unfold catTo; rw [List.range_succ, List.flatMap_append]; simp
theorem catTo_len (H : Nat → List Ent) (k : Nat) : (catTo H k).length = lenTo H k := rfl

/-- What Concat's second loop keeps. -/
structure CatE (w wr : World) (v : Value) (xs : List Ent) : Prop where
  row : OwnE 87 w.heap.size wr v xs
  kept : Kept (fun _ => False) w wr

set_option maxRecDepth 100000 in
set_option maxHeartbeats 3200000 in
theorem concatE_any (w : World) (bb M : Nat) (hv : Nat → Value) (H : Nat → List Ent) (h : BookAt w bb M hv H) (hM : M ≤ 1000) :
    Calls Tryd.prog 78 #[.slice (some ⟨bb, 0, none⟩) 257 257] w fun e w' => ∃ v', e = .returned v' ∧ OwnE 87 w.heap.size w' v' (allE H) ∧ Kept (fun _ => False) w w' := by
  have HH := Lib.hid h
  have HLEN : Hid (∀ k, k ≤ 257 → lenTo H k ≤ 257000) := Lib.hid fun k hk => by
    have := lenTo_le (H := H) (M := M) k (fun u hu => h.len u (by omega))
    have : k * M ≤ 257 * 1000 := Nat.mul_le_mul hk hM
    omega
  clear h
  go_enter Tryd.func78, Tryd.ntmps78
  go_wp2_with fail
  go_loop [3, 11] (fun sv iv => ∃ k : Nat, k ≤ 257 ∧ iv = .int .i64 k ∧ sv = .int .i64 ((lenTo H k : Nat) : Int)) (fun _ iv => 257 - (intOf iv).toNat)
  case atStart => exact ⟨0, by omega, rfl, rfl⟩
  case round =>
    obtain ⟨k, hk, rfl, rfl⟩ := hrel
    have hkl := HLEN.out k hk
    by_cases hlt : k < 257
    · have hl1 : (k : Int) < 257 := by omega
      have hl0 : (0 : Int) ≤ (k : Int) := by omega
      have hcell := HH.out.cell k hlt
      obtain ⟨a, cc, hf, _, _⟩ := (HH.out.row k hlt).form
      have hs := lenTo_succ H k
      have hkl2 := HLEN.out (k + 1) (by omega)
      rw [hf] at hcell
      have HS := Lib.hid hs
      rw [hs] at hkl2
      clear hs hf
      generalize lenTo H k = s at *
      generalize (H k).length = m at *
      have hneg : ¬ ((s : Int) + m) < 0 := by omega
      have hcell2 : w.cell? ⟨bb, 0 + k, none⟩ = some (.slice a m cc) := by rw [Nat.zero_add]; exact hcell
      go_wp2_with fail
      go_round
      case rel => exact ⟨k + 1, by omega, by go_num, by rw [HS.out]; go_num⟩
      case measure => simp [intOf]; omega
    · obtain rfl : k = 257 := by omega
      have hkl2 : lenTo H 257 ≤ 1000000 := by omega
      generalize lenTo H 257 = s at *
      go_wp2_with fail
      refine (growE_any s w hkl2).mono ?_
      rintro e w1 ⟨v1, rfl, hf1, hk1⟩
      have HI := Lib.hid (CatE.mk (w := w) (xs := catTo H 0) hf1 hk1)
      clear hf1 hk1
      go_wp2_with fail
      go_loopw [6, 27] (fun sv iv wr => ∃ i : Nat, i ≤ 257 ∧ iv = .int .i64 i ∧ Hid (CatE w wr sv (catTo H i))) (fun _ iv _ => 257 - (intOf iv).toNat)
      case atStart => exact ⟨0, by omega, rfl, HI⟩
      case round =>
        obtain ⟨i, hik, rfl, hinv⟩ := hrel
        by_cases hlt2 : i < 257
        · have hl1 : (i : Int) < 257 := by omega
          have hl0 : (0 : Int) ≤ (i : Int) := by omega
          have hb := HH.out.kept hinv.out.kept (fun h => h) (fun _ _ _ _ h => h)
          have hcell := hb.cell i hlt2
          have hread := hb.row i hlt2
          obtain ⟨a3, c3, w3, r1, f3, k3⟩ := append_ents_run Tryd.underlying85 info_ent hinv.out.row hread (by
            have h1 := HLEN.out (i + 1) (by omega); rw [lenTo_succ] at h1; rw [catTo_len]; omega) hinv.out.kept.size
          have hk3 : Kept (fun _ => False) w w3 := hinv.out.kept.trans k3 (fun _ _ h => h) (fun j hj e => by have := (World.ownsRow.lt hinv.out.row j e).1; omega)
          rw [← catTo_succ] at r1 f3
          have HI3 : Hid (CatE w w3 _ (catTo H (i + 1))) := ⟨f3, hk3⟩
          have R1 := Lib.hid r1
          have hcell2 : wr.cell? ⟨bb, 0 + i, none⟩ = some (hv i) := by rw [Nat.zero_add]; exact hcell
          clear hb hread r1 f3 k3 hk3 hinv HI
          generalize hv i = fi at hcell hcell2 R1
          generalize (catTo H (i + 1)).length = q at R1 HI3
          go_wp2_with (at_builtin; refine wpList_appendI_run (by rfl) _ _ _ _ rfl _ _ rfl rfl R1.out ?_)
          go_roundw
          case rel => exact ⟨i + 1, by omega, by go_num, HI3⟩
          case measure => simp [intOf]; omega
        · obtain rfl : i = 257 := by omega
          have HF := Lib.hid hinv.out.row; have HK := Lib.hid hinv.out.kept
          go_wp2_with fail
          go_ret
          exact ⟨_, rfl, HF.out, HK.out⟩

set_option maxRecDepth 100000 in
set_option maxHeartbeats 3200000 in
theorem entries_none (w : World) : Calls Tryd.prog 44 #[.pointer none] w fun e w' => e = .returned (.slice none 0 0) ∧ w = w' := by
  go_enter Tryd.func44, Tryd.ntmps44
  go_wp2_with fail
  go_ret
  exact ⟨rfl, rfl⟩
set_option maxRecDepth 100000 in
set_option maxHeartbeats 3200000 in
theorem entries_any (w : World) (v : Value) (M : Nat) (H : Nat → List Ent) (h : BookV w v M H) (hM : M ≤ 1000) :
    Calls Tryd.prog 44 #[v] w fun e w' => ∃ v', e = .returned v' ∧ OwnE 87 w.heap.size w' v' (allE H) ∧ Kept (fun _ => False) w w' := by
  obtain ⟨bb, hv, rfl, hb, hr⟩ := h
  have HB := Lib.hid hb
  clear hb hr
  go_enter Tryd.func44, Tryd.ntmps44
  go_wp2_with (first
    | (go_at_call 78; refine (concatE_any w bb M hv H HB.out hM).mono ?_; rintro e w1 ⟨v1, rfl, o1, k1⟩
       have O1 := Lib.hid o1; have K1 := Lib.hid k1; clear o1 k1))
  go_ret
  exact ⟨_, rfl, O1.out, K1.out⟩

/-- A row's slice in the array of all rows. -/
theorem idx_row (w : World) (cs : List Value) (i : Nat) (v : Value) (hi : i < 257) (hv : cs[i]? = some v) : (Instr.index 90 (.agg cs.toArray) (.int .i64 (i : Int))).run Tryd.prog w = .ok v w := by
  have hagg : (isAgg 85).run Tryd.prog w = .ok false w := by
    unfold isAgg
    rw [Sem.run_bind, run_underlying Tryd.underlying85 w]
    simp
  have hi' : (i : Int) < 257 := by omega
  have hie : (Tryd.prog.info? 85).map (·.size) = some 1 := by kernel_rfl
  cases hq : Tryd.prog.info? 85 with
  | none => simp [hq] at hie
  | some ie =>
    have hs : ie.size = 1 := by simpa [hq] using hie
    have hv' : cs.toArray[i]? = some v := by simpa using hv
    simp [Instr.index, asIntOf, run_underlying Tryd.underlying90, part, hagg, sizeOf, typeInfo, hq, hs, hv, hi]

set_option maxRecDepth 100000 in
set_option maxHeartbeats 3200000 in
theorem mlen_any (w : World) (v : Value) (M : Nat) (H : Nat → List Ent) (h : BookV w v M H) (hM : M ≤ 1000) :
    Calls Tryd.prog 36 #[v] w fun e w' => e = .returned (.int .i64 ((allE H).length : Nat)) ∧ w = w' := by
  obtain ⟨bb, hv, rfl, hb, hr⟩ := h
  have hc : ∀ j v, (bookL hv)[j]? = some v → w.cell? ⟨bb, 0 + j, none⟩ = some v := fun j v hj => by
    have hl : j < 257 := by
      have := (List.getElem?_eq_some_iff.1 hj).1
      rwa [bookL_length] at this
    rw [bookL_at hv j hl] at hj
    cases hj
    rw [Nat.zero_add]
    exact hb.cell j hl
  have hs : (Tryd.prog.info? 90).map (·.size) = some (bookL hv).length := by rw [bookL_length]; kernel_rfl
  have HA := Lib.hid (fun j hj => bookL_at hv j hj)
  generalize hcs : bookL hv = cs at *
  have HCo := Lib.hid hc; have HSz := Lib.hid hs; have HH := Lib.hid hb
  have HLEN : Hid (∀ k, k ≤ 257 → lenTo H k ≤ 257000) := Lib.hid fun k hk => by
    have := lenTo_le (H := H) (M := M) k (fun u hu => hb.len u (by omega))
    have : k * M ≤ 257 * 1000 := Nat.mul_le_mul hk hM
    omega
  clear hc hs hcs hb hr
  go_enter Tryd.func36, Tryd.ntmps36
  go_wp2_with (first
    | (refine wpList_load_at rfl 90 _ rfl bb 0 rfl cs _ HCo.out Tryd.underlying90 rfl HSz.out ?_))
  go_loop [3, 12] (fun sv iv => ∃ k : Nat, k ≤ 257 ∧ iv = .int .i64 k ∧ sv = .int .i64 ((lenTo H k : Nat) : Int)) (fun _ iv => 257 - (intOf iv).toNat)
  case atStart => exact ⟨0, by omega, rfl, rfl⟩
  case round =>
    obtain ⟨k, hk, rfl, rfl⟩ := hrel
    have hkl := HLEN.out k hk
    by_cases hlt : k < 257
    · have hl1 : (k : Int) < 257 := by omega
      have hl0 : (0 : Int) ≤ (k : Int) := by omega
      obtain ⟨a, cc, hf, _, _⟩ := (HH.out.row k hlt).form
      have hat := HA.out k hlt
      rw [hf] at hat
      have hidx := idx_row w cs k _ hlt hat
      have hs := lenTo_succ H k
      have hkl2 := HLEN.out (k + 1) (by omega)
      have HS := Lib.hid hs
      rw [hs] at hkl2
      clear hs hf hat
      generalize lenTo H k = s at *
      generalize (H k).length = m at *
      go_wp2_with fail
      go_round
      case rel => exact ⟨k + 1, by omega, by go_num, by rw [HS.out]; go_num⟩
      case measure => simp [intOf]; omega
    · obtain rfl : k = 257 := by omega
      go_wp2_with fail
      go_ret
      exact ⟨rfl, rfl⟩
end Go.Proofs.YtccanbjnbmihgaaDoor
