/-
  arbac/keccak: moved, permute.
-/
import Derived.Test.YtdmnanocmpkhjaaDoorKecP
import Derived.Test.YtdmnanocmpkhjaaDoorKecL
namespace Go.Proofs.YtdmnanocmpkhjaaDoor
open Go.RowKit

theorem size25 : (Tryd.prog.info? 36).map (·.size) = some 25 := by kernel_rfl

set_option maxRecDepth 100000 in
set_option maxHeartbeats 1600000 in
theorem moved_any (w : World) (g off : Nat) (s : List Nat) (h25 : s.length = 25) (hb : ∀ x ∈ s, x < 2 ^ 64) (h : Lanes w g off s) (hg : g < w.heap.size) (hT : KTab w) :
    Calls Tryd.prog 18 #[.pointer (some ⟨g, off, none⟩)] w fun e w' => e = .returned (.agg (arr (movS s)).toArray) ∧ Kept (fun _ => False) w w' := by
  have HH := Lib.hid h; have HB := Lib.hid hb; have H25 := Lib.hid h25; have HT := Lib.hid hT
  clear h hb h25 hT
  go_enter Tryd.func18, Tryd.ntmps18
  go_wp2_with fail
  go_loopw [4, 5, 7] (fun _ _ i W => ∃ k : Nat, k ≤ 25 ∧ i = .int .i64 k ∧ Lanes W (w.heap.size + 1) 0 (movK s k) ∧ Lanes W w.heap.size 0 (List.replicate 25 0) ∧ Kept (fun _ => False) w W ∧ w.heap.size + 1 < W.heap.size) (fun _ _ i _ => 25 - (intOf i).toNat)
  case atStart =>
    refine ⟨0, by omega, rfl, ?_, ?_, (Kept.alloc _ _ _).then (Kept.alloc _ _ _), by simp⟩
    · have := lanes_new (w.alloc (.cells (arr (List.replicate 25 0)).toArray 36)) (arr (List.replicate 25 0)).toArray 36 (movK s 0) rfl
      rw [show (w.alloc (.cells (arr (List.replicate 25 0)).toArray 36)).heap.size = w.heap.size + 1 by simp] at this
      exact this
    · exact (lanes_new w (arr (List.replicate 25 0)).toArray 36 (List.replicate 25 0) rfl).kept (Kept.alloc (fun _ => False) _ _) (by simp) (fun h => h)
  case round =>
    obtain ⟨k, hk, rfl, hm, hz, hkw, hsz⟩ := hrel
    by_cases hlt : k < 25
    · have hs1 := HH.out.kept hkw hg (fun h => h)
      have e0 := hs1.at k (by rw [H25.out]; exact hlt)
      have hT1 := HT.out.kept hkw (fun _ _ h => h)
      have t1 := hT1.turn k hlt
      have t2 := hT1.place k hlt
      have hp := plc_lt k
      have ht := trn_lt k
      have hx := ln_lt HB.out k
      have hsucc := movK_succ s k
      have hgg := Nat.lt_of_lt_of_le hg hkw.size
      obtain ⟨x, hxe⟩ : ∃ x, x = ln s k := ⟨_, rfl⟩
      obtain ⟨p, hpe⟩ : ∃ x, x = plc.getD k 0 := ⟨_, rfl⟩
      obtain ⟨t, hte⟩ : ∃ x, x = trn.getD k 0 := ⟨_, rfl⟩
      rw [← hxe] at e0 hx hsucc
      rw [← hpe] at t2 hp hsucc
      rw [← hte] at t1 ht hsucc
      have HS := Lib.hid hsucc
      clear hsucc hxe hpe hte hs1 hT1
      obtain ⟨y, hy⟩ : ∃ y, y = rol x t := ⟨_, rfl⟩
      have hrot := fun (W : World) => rot_any x t W hx ht
      rw [← hy] at hrot HS
      have HROT := Lib.hid hrot
      clear hrot hy
      have m0 : (k : Int) < 25 := by omega
      have p0 : (0 : Int) ≤ k := by omega
      have m1 : (p : Int) < 25 := by omega
      have p1 : (0 : Int) ≤ p := by omega
      have hw : IntKind.i64.wrap (t : Int) = (t : Int) := IntWalk.i64_in _ (by omega)
      have HM := Lib.hid hm; have HZ := Lib.hid hz; have HK := Lib.hid hkw
      clear hm hz hkw
      go_wp2_with fail
      go_quiet (fail)
      have t1' : (wr.drewN nq).cell? _ = _ := t1
      have t2' : (wr.drewN nq).cell? _ = _ := t2
      have hkq : Kept (fun _ => False) wr (wr.drewN nq) := (Kept.refl _ _).drewN _
      have hsz1 : w.heap.size + 1 < (wr.drewN nq).heap.size := hsz
      have M1 := HM.out.kept hkq (by omega) (fun h => h)
      have Z1 := HZ.out.kept hkq (by omega) (fun h => h)
      have K1 := HK.out.then hkq
      clear HM HZ HK hsz hkq t1 t2 e0
      generalize wr.drewN nq = w1 at *
      have d := M1.cell p (by rw [movK_length]; exact hp)
      have f := M1.free p (by rw [movK_length]; exact hp)
      rw [Nat.zero_add] at d f
      generalize (movK s k).getD p 0 = old at d
      have S1 := M1.drew.set p y (by rw [movK_length]; exact hp)
      rw [Nat.zero_add, ← HS.out] at S1
      have kr := Kept.setCell (fun k => k = w.heap.size + 1) w1.drew ⟨w.heap.size + 1, p, none⟩ (.int .u64 (y : Int)) rfl
      have Z2 := Z1.drew.kept kr (by simp; omega) (by omega)
      have K2 := K1.drew.trans kr (T := fun _ => False) (fun _ _ h => h) (fun i hi e => by omega)
      have hsz2 := Nat.lt_of_lt_of_le hsz1 kr.size
      have HS1 := Lib.hid S1; have HZ2 := Lib.hid Z2; have HK2 := Lib.hid K2
      clear S1 Z2 K2 M1 Z1 K1 kr
      go_wp2_with fail
      go_still_tail 10, (by kernel_rfl)
      still_call ((HROT.out _).mono (fun _ _ h => ⟨h.1, h.2.symm⟩))
      repeat still_step
      refine wpStill_nil ?_
      change wpList _ _ _ _ _ w1.drew
      replace d : w1.drew.cell? _ = _ := d
      replace f : w1.drew.frozen? _ = _ := f
      clear t1' t2' hw
      generalize w1.drew = w2 at *
      go_wp2_with fail
      have hl : Lanes (w2.setCell ⟨w.heap.size + 1, p, none⟩ (.int .u64 (y : Int))) (w.heap.size + 1) 0 (movK s (k + 1)) := HS1.out
      go_roundw
      case rel =>
        first
          | exact ⟨k + 1, by omega, by go_num, hl, HZ2.out, HK2.out, hsz2⟩
          | ((repeat apply Exists.intro); exact ⟨⟨k + 1, by omega, by go_num, hl, HZ2.out, HK2.out, hsz2⟩, rfl⟩)
      case measure => simp [intOf]; omega
    · obtain rfl : k = 25 := by omega
      have hms : movK s 25 = movS s := rfl
      rw [hms] at hm
      have hml : (movS s).length = 25 := movK_length s 25
      have hg1 := hm.get
      have z1 : ∀ j, j < (arr (movS s)).length → (wr.cell? ⟨w.heap.size, 0 + j, none⟩).isSome = true := fun j hj => by
        rw [arr_length, hml] at hj; rw [hz.cell j (by simpa using hj)]; rfl
      have z2 : ∀ j, j < (arr (movS s)).length → wr.frozen? ⟨w.heap.size, 0 + j, none⟩ = false := fun j hj => by
        rw [arr_length, hml] at hj; exact hz.free j (by simpa using hj)
      have hsz25 : (Tryd.prog.info? 36).map (·.size) = some (arr (movS s)).length := by rw [arr_length, hml]; exact size25
      have hfin := (hz.setCells (t := movS s) (by simp [hml])).get
      have kr := Kept.setCells w.heap.size (arr (movS s)) 0 wr
      have K2 := hkw.trans kr (T := fun _ => False) (fun _ _ h => h) (fun i hi e => by omega)
      have G1 := Lib.hid hg1; have Z1 := Lib.hid z1; have Z2 := Lib.hid z2; have HF := Lib.hid hfin; have HK2 := Lib.hid K2; have HS25 := Lib.hid hsz25
      have hone := arr_one (movS s)
      have HO := Lib.hid hone
      clear hg1 z1 z2 hfin K2 kr hm hz hkw hms hml hone hsz25
      obtain ⟨cs, hcs⟩ : ∃ cs, cs = arr (movS s) := ⟨_, rfl⟩
      rw [← hcs] at G1 Z1 Z2 HF HK2 HS25 HO
      have HCS := Lib.hid hcs; clear hcs
      go_wp2_with (first | (refine wpList_load_at rfl 36 _ rfl (w.heap.size + 1) 0 rfl cs _ G1.out Tryd.underlying36 rfl HS25.out ?_) | (refine wpList_store_at rfl 36 _ _ rfl w.heap.size 0 cs rfl rfl Z1.out Z2.out HO.out HS25.out ?_))
      refine bodyPost_ret_by (v := .agg cs.toArray) ?_ ?_ ?_
      · exact results_cell_at Tryd.results18 _ _ w.heap.size cs _ rfl HF.out Tryd.underlying36 rfl HS25.out
      · rfl
      · exact ⟨by rw [HCS.out], HK2.out⟩
end Go.Proofs.YtdmnanocmpkhjaaDoor
