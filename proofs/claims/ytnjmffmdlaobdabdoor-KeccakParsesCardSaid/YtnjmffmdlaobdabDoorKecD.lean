/-
  arbacref03.digit, arbacref03.Parse.
-/
import Derived.Test.YtnjmffmdlaobdabDoorKecQ
namespace Go.Proofs.YtnjmffmdlaobdabDoor
open Go.RowKit

theorem size32b : (Tryd.prog.info? 24).map (·.size) = some 32 := by kernel_rfl
def dg (c : Nat) : Nat := if 48 ≤ c ∧ c ≤ 57 then c - 48 else if 97 ≤ c ∧ c ≤ 102 then c - 87 else 16
theorem dg_le (c : Nat) : dg c ≤ 16 := by
  unfold dg
  split
  · omega
  · split <;> omega
theorem dg_dv (c : Nat) : (0 ≤ dv c ↔ dg c ≤ 15) ∧ (dg c ≤ 15 → (dv c).toNat = dg c) := by
  unfold dg dv
  by_cases h1 : 48 ≤ c ∧ c ≤ 57
  · rw [if_pos h1, if_pos h1]; omega
  · rw [if_neg h1, if_neg h1]
    by_cases h2 : 97 ≤ c ∧ c ≤ 102
    · rw [if_pos h2, if_pos h2]; omega
    · rw [if_neg h2, if_neg h2]; omega
set_option maxRecDepth 100000 in
set_option maxHeartbeats 400000 in
theorem digit_any (w : World) (c : Nat) (hc : c < 256) : Calls Tryd.prog 63 #[.int .u8 (c : Int)] w fun e w' => e = .returned (.int .u8 (dg c : Nat)) ∧ w = w' := by
  by_cases h1 : 48 ≤ c ∧ c ≤ 57
  · obtain ⟨n, hn⟩ : ∃ n, n = c - 48 := ⟨_, rfl⟩
    rw [show dg c = n by unfold dg; rw [if_pos h1, hn]]
    have t1 : (48 : Int) ≤ c := by omega
    have t2 : (c : Int) ≤ 57 := by omega
    have s1 : IntKind.u8.wrap ((c : Int) - 48) = (n : Int) := by rw [IntWalk.u8_in _ (by omega)]; omega
    clear h1 hn
    go_enter Tryd.func63, Tryd.ntmps63
    go_wp2_with fail
    go_ret
    exact ⟨rfl, rfl⟩
  · by_cases h2 : 97 ≤ c ∧ c ≤ 102
    · obtain ⟨m, hm⟩ : ∃ n, n = c - 97 := ⟨_, rfl⟩
      obtain ⟨n, hn⟩ : ∃ n, n = c - 87 := ⟨_, rfl⟩
      rw [show dg c = n by unfold dg; rw [if_neg h1, if_pos h2, hn]]
      have t0 : (48 : Int) ≤ c := by omega
      have t1 : ¬ (c : Int) ≤ 57 := by omega
      have t2 : (97 : Int) ≤ c := by omega
      have t3 : (c : Int) ≤ 102 := by omega
      have s1 : IntKind.u8.wrap ((c : Int) - 97) = (m : Int) := by rw [IntWalk.u8_in _ (by omega)]; omega
      have s2 : IntKind.u8.wrap ((m : Int) + 10) = (n : Int) := by rw [IntWalk.u8_in _ (by omega)]; omega
      clear h1 h2 hn hm
      go_enter Tryd.func63, Tryd.ntmps63
      go_wp2_with fail
      go_ret
      exact ⟨rfl, rfl⟩
    · rw [show dg c = 16 by unfold dg; rw [if_neg h1, if_neg h2]]
      have hcase : (¬ (48 : Int) ≤ c ∧ ¬ (97 : Int) ≤ c) ∨ ((48 : Int) ≤ c ∧ ¬ (c : Int) ≤ 57 ∧ ¬ (97 : Int) ≤ c) ∨ ((48 : Int) ≤ c ∧ ¬ (c : Int) ≤ 57 ∧ (97 : Int) ≤ c ∧ ¬ (c : Int) ≤ 102) := by omega
      clear h1 h2
      rcases hcase with ⟨t1, t2⟩ | ⟨t1, t2, t3⟩ | ⟨t1, t2, t3, t4⟩
      all_goals
        go_enter Tryd.func63, Tryd.ntmps63
        go_wp2_with fail
        go_ret
        exact ⟨rfl, rfl⟩

set_option maxRecDepth 100000 in
set_option maxHeartbeats 1600000 in
theorem rparse_any (w : World) (ss : List Nat) (hb : ∀ x ∈ ss, x < 256) :
    Calls Tryd.prog 38 #[.string (strN ss)] w fun e w' => Kept (fun _ => False) w w' ∧
      ((ss.length = 64 ∧ (∀ i, i < 32 → pOk ss i) ∧ e = .returned (.tuple #[.agg (arr8 (parV ss)).toArray, .bool true])) ∨
       ((ss.length ≠ 64 ∨ ∃ i, i < 32 ∧ ¬ pOk ss i) ∧ e = .returned (.tuple #[.agg zero32.toArray, .bool false]))) := by
  have hS := strN_size ss
  have hAt := strN_at ss hb
  generalize strN ss = S at *
  have HAT := Lib.hid hAt; have HB := Lib.hid hb
  clear hAt hb
  go_enter Tryd.func38, Tryd.ntmps38
  by_cases h64 : ss.length = 64
  · rw [h64] at hS
    go_wp2_with fail
    go_loopw [5, 6, 7] (fun i _ _ W => ∃ k : Nat, k ≤ 32 ∧ i = .int .i64 k ∧ (∀ j, j < k → pOk ss j) ∧ Blk W (w.heap.size + 1) 0 ((parV ss).take k ++ List.replicate (32 - k) 0) ∧ Blk W w.heap.size 0 (List.replicate 32 0) ∧ Kept (fun _ => False) w W ∧ w.heap.size + 1 < W.heap.size) (fun i _ _ _ => 32 - (intOf i).toNat)
    case atStart =>
      refine ⟨0, by omega, rfl, by omega, ?_, ?_, (Kept.alloc _ _ _).then (Kept.alloc _ _ _), by simp⟩
      · have := blk_new (w.alloc (.cells (arr8 (List.replicate 32 0)).toArray 24)) (arr8 (List.replicate 32 0)).toArray 24 (List.replicate 32 0) rfl
        rw [show (w.alloc (.cells (arr8 (List.replicate 32 0)).toArray 24)).heap.size = w.heap.size + 1 by simp] at this
        exact this
      · exact (blk_new w (arr8 (List.replicate 32 0)).toArray 24 (List.replicate 32 0) rfl).kept (Kept.alloc (fun _ => False) _ _) (by simp) (fun h => h)
    case round =>
      obtain ⟨k, hk, rfl, hv, hm, hz, hkw, hsz⟩ := hrel
      have hlen : ((parV ss).take k ++ List.replicate (32 - k) 0).length = 32 := by simp [parV_length]; omega
      by_cases hlt : k < 32
      · obtain ⟨j0, hj0⟩ : ∃ j, j = 2 * k := ⟨_, rfl⟩
        obtain ⟨j1, hj1⟩ : ∃ j, j = 2 * k + 1 := ⟨_, rfl⟩
        have w0 : IntKind.i64.wrap (2 * (k : Int)) = (j0 : Int) := by rw [IntWalk.i64_in _ (by omega)]; omega
        have w1 : IntKind.i64.wrap ((j0 : Int) + 1) = (j1 : Int) := by rw [IntWalk.i64_in _ (by omega)]; omega
        have p0 : (0 : Int) ≤ j0 := by omega
        have p1 : (j0 : Int) < 64 := by omega
        have p2 : j0 < 64 := by omega
        have p3 : (0 : Int) ≤ j1 := by omega
        have p4 : (j1 : Int) < 64 := by omega
        have p5 : j1 < 64 := by omega
        have m0 : (k : Int) < 32 := by omega
        have e0 := HAT.out j0
        have e1 := HAT.out j1
        have b0 := getD_lt256 HB.out j0
        have b1 := getD_lt256 HB.out j1
        have hbad : ¬ (dg (ss.getD j0 0) ≤ 15 ∧ dg (ss.getD j1 0) ≤ 15) → ¬ pOk ss k := fun h h' => h (by
          unfold pOk at h'; rw [← hj1, ← hj0] at h'
          exact ⟨(dg_dv _).1.1 h'.1, (dg_dv _).1.1 h'.2⟩)
        have hgood : (dg (ss.getD j0 0) ≤ 15 ∧ dg (ss.getD j1 0) ≤ 15) → pOk ss k ∧ (parV ss).getD k 0 = 16 * dg (ss.getD j0 0) + dg (ss.getD j1 0) := fun h => by
          rw [parV_at ss k hlt]
          refine ⟨?_, ?_⟩
          · unfold pOk; rw [← hj1, ← hj0]; exact ⟨(dg_dv _).1.2 h.1, (dg_dv _).1.2 h.2⟩
          · unfold pV; rw [← hj1, ← hj0, (dg_dv _).2 h.1, (dg_dv _).2 h.2]
        generalize ss.getD j0 0 = c0 at *
        generalize ss.getD j1 0 = c1 at *
        have HG := Lib.hid hgood; have HBD := Lib.hid hbad; have HV := Lib.hid hv; have HM := Lib.hid hm; have HZ := Lib.hid hz; have HKW := Lib.hid hkw
        clear hgood hbad hv hm hz hkw hj0 hj1
        go_wp2_with fail
        refine (digit_any wr c0 b0).mono ?_
        rintro e w' ⟨rfl, rfl⟩
        have l0 := dg_le c0
        generalize dg c0 = h at *
        go_wp2_with fail
        refine (digit_any wr c1 b1).mono ?_
        rintro e w' ⟨rfl, rfl⟩
        have l1 := dg_le c1
        generalize dg c1 = l at *
        have hm := HM.out; have hz := HZ.out; have hkw := HKW.out
        clear HM HZ HKW
        by_cases hpos : h ≤ 15 ∧ l ≤ 15
        · obtain ⟨hok, hpv⟩ := HG.out hpos
          obtain ⟨t, ht⟩ : ∃ t, t = 16 * h := ⟨_, rfl⟩
          obtain ⟨b, hb⟩ : ∃ b, b = 16 * h + l := ⟨_, rfl⟩
          rw [← hb] at hpv
          have s1 : IntKind.u8.wrap (16 * (h : Int)) = (t : Int) := by rw [IntWalk.u8_in _ (by omega)]; omega
          have s3 : IntKind.u8.wrap ((t : Int) + l) = (b : Int) := by rw [IntWalk.u8_in _ (by omega)]; omega
          have t1 : ¬ (15 : Int) < h := by omega
          have t2 : ¬ (15 : Int) < l := by omega
          have d := hm.cell k (by omega)
          have f := hm.free k (by omega)
          have hset := hm.set k b (by omega)
          rw [Nat.zero_add] at d f hset
          rw [← hpv, fill_set (parV ss) 32 k (parV_length ss) hlt] at hset
          rw [hpv] at hset
          generalize ((parV ss).take k ++ List.replicate (32 - k) 0).getD k 0 = old at d
          have kr := Kept.setCell (fun k => k = w.heap.size + 1) wr ⟨w.heap.size + 1, k, none⟩ (.int .u8 (b : Int)) rfl
          have Z2 := hz.kept kr (by omega) (by omega)
          have K2 := hkw.trans kr (T := fun _ => False) (fun _ _ h => h) (fun i hi e => by omega)
          have hsz2 := Nat.lt_of_lt_of_le hsz kr.size
          have hv2 : ∀ j, j < k + 1 → pOk ss j := fun j hj => by
            rcases Nat.lt_or_ge j k with h | h
            · exact HV.out j h
            · obtain rfl : j = k := by omega
              exact hok
          have HS := Lib.hid hset; have HZ2 := Lib.hid Z2; have HK2 := Lib.hid K2; have HV2 := Lib.hid hv2
          clear hset Z2 K2 kr hm hz hkw hv2 hok hpv ht hb hpos HG HBD HV hlen e0 e1
          go_wp2_with fail
          go_roundw
          case rel =>
            first
              | exact ⟨k + 1, by omega, by go_num, HV2.out, HS.out, HZ2.out, HK2.out, hsz2⟩
              | ((repeat apply Exists.intro); exact ⟨⟨k + 1, by omega, by go_num, HV2.out, HS.out, HZ2.out, HK2.out, hsz2⟩, rfl⟩)
          case measure => simp [intOf]; omega
        · have HBAD := Lib.hid (HBD.out hpos)
          have hz0 := (hz.setCells (t := List.replicate 32 0) rfl).get
          have z1 : ∀ j, j < zero32.length → (wr.cell? ⟨w.heap.size, 0 + j, none⟩).isSome = true := fun j hj => by
            rw [hz.cell j (by simpa [zero32, arr8_length] using hj)]; rfl
          have z2 : ∀ j, j < zero32.length → wr.frozen? ⟨w.heap.size, 0 + j, none⟩ = false := fun j hj => hz.free j (by simpa [zero32, arr8_length] using hj)
          have hfin : ∀ j v, zero32[j]? = some v → (wr.setCells w.heap.size 0 zero32).cell? ⟨w.heap.size, 0 + j, none⟩ = some v := hz0
          have K10 := hkw.trans (Kept.setCells w.heap.size zero32 0 wr) (T := fun _ => False) (fun _ _ h => h) (fun i hi e => by omega)
          have Z1 := Lib.hid z1; have Z2 := Lib.hid z2; have HF := Lib.hid hfin; have HK := Lib.hid K10
          have HO : Hid (∀ v ∈ zero32, v.oneCell' = true) := arr8_one _
          have HSD : Hid ((Tryd.prog.info? 24).map (·.size) = some zero32.length) := by
            show _ = some zero32.length
            rw [zero32, arr8_length, List.length_replicate]; exact size32b
          clear z1 z2 hfin K10 hz0
          clear HG HBD HV hm hz hkw hlen e0 e1
          by_cases hneg : (15 : Int) < h
          · clear hpos
            go_wp2_with (first | (refine wpList_store_at rfl 24 _ _ rfl w.heap.size 0 zero32 rfl rfl Z1.out Z2.out HO.out HSD.out ?_))
            refine bodyPost_ret_by (v := .tuple #[.agg zero32.toArray, .bool false]) ?_ ?_ ?_
            · exact results_cell_slot Tryd.results38 _ _ w.heap.size zero32 _ _ rfl rfl HF.out Tryd.underlying24 rfl HSD.out
            · rfl
            · exact ⟨HK.out, Or.inr ⟨Or.inr ⟨k, hlt, HBAD.out⟩, rfl⟩⟩
          · have hneg1 : (15 : Int) < l := by omega
            clear hpos
            go_wp2_with (first | (refine wpList_store_at rfl 24 _ _ rfl w.heap.size 0 zero32 rfl rfl Z1.out Z2.out HO.out HSD.out ?_))
            refine bodyPost_ret_by (v := .tuple #[.agg zero32.toArray, .bool false]) ?_ ?_ ?_
            · exact results_cell_slot Tryd.results38 _ _ w.heap.size zero32 _ _ rfl rfl HF.out Tryd.underlying24 rfl HSD.out
            · rfl
            · exact ⟨HK.out, Or.inr ⟨Or.inr ⟨k, hlt, HBAD.out⟩, rfl⟩⟩
      · obtain rfl : k = 32 := by omega
        have hfull : (parV ss).take 32 ++ List.replicate (32 - 32) 0 = parV ss := by simp [List.take_of_length_le, parV_length]
        rw [hfull] at hm
        have hml := parV_length ss
        have hg1 := hm.get
        have z1 : ∀ j, j < (arr8 (parV ss)).length → (wr.cell? ⟨w.heap.size, 0 + j, none⟩).isSome = true := fun j hj => by
          rw [arr8_length, hml] at hj; rw [hz.cell j (by simpa using hj)]; rfl
        have z2 : ∀ j, j < (arr8 (parV ss)).length → wr.frozen? ⟨w.heap.size, 0 + j, none⟩ = false := fun j hj => by
          rw [arr8_length, hml] at hj; exact hz.free j (by simpa using hj)
        have hsz25 : (Tryd.prog.info? 24).map (·.size) = some (arr8 (parV ss)).length := by rw [arr8_length, hml]; exact size32b
        have hfin := (hz.setCells (t := parV ss) (by simp [hml])).get
        have kr := Kept.setCells w.heap.size (arr8 (parV ss)) 0 wr
        have K2 := hkw.trans kr (T := fun _ => False) (fun _ _ h => h) (fun i hi e => by omega)
        have G1 := Lib.hid hg1; have Z1 := Lib.hid z1; have Z2 := Lib.hid z2; have HF := Lib.hid hfin; have HK2 := Lib.hid K2; have HS25 := Lib.hid hsz25
        have HO := Lib.hid (arr8_one (parV ss)); have HV := Lib.hid hv
        clear hg1 z1 z2 hfin K2 kr hm hz hkw hfull hml hsz25 hlen hv
        obtain ⟨cs, hcs⟩ : ∃ cs, cs = arr8 (parV ss) := ⟨_, rfl⟩
        rw [← hcs] at G1 Z1 Z2 HF HK2 HS25 HO
        have HCS := Lib.hid hcs; clear hcs
        go_wp2_with (first | (refine wpList_load_at rfl 24 _ rfl (w.heap.size + 1) 0 rfl cs _ G1.out Tryd.underlying24 rfl HS25.out ?_) | (refine wpList_store_at rfl 24 _ _ rfl w.heap.size 0 cs rfl rfl Z1.out Z2.out HO.out HS25.out ?_))
        refine bodyPost_ret_by (v := .tuple #[.agg cs.toArray, .bool true]) ?_ ?_ ?_
        · exact results_cell_slot Tryd.results38 _ _ w.heap.size cs _ _ rfl rfl HF.out Tryd.underlying24 rfl HS25.out
        · rfl
        · exact ⟨HK2.out, Or.inl ⟨h64, HV.out, by rw [HCS.out]⟩⟩
  · have hz : Blk ((w.alloc (.cells zero32.toArray 24)).alloc (.cells zero32.toArray 24)) w.heap.size 0 (List.replicate 32 0) :=
      (blk_new w zero32.toArray 24 (List.replicate 32 0) (by simp [zero32])).kept (Kept.alloc (fun _ => False) _ _) (by simp) (fun h => h)
    have hkw : Kept (fun _ => False) w ((w.alloc (.cells zero32.toArray 24)).alloc (.cells zero32.toArray 24)) := (Kept.alloc _ _ _).then (Kept.alloc _ _ _)
    have z1 : ∀ j, j < zero32.length → (((w.alloc (.cells zero32.toArray 24)).alloc (.cells zero32.toArray 24)).cell? ⟨w.heap.size, 0 + j, none⟩).isSome = true := fun j hj => by
      rw [hz.cell j (by simpa [zero32, arr8_length] using hj)]; rfl
    have z2 : ∀ j, j < zero32.length → ((w.alloc (.cells zero32.toArray 24)).alloc (.cells zero32.toArray 24)).frozen? ⟨w.heap.size, 0 + j, none⟩ = false := fun j hj => hz.free j (by simpa [zero32, arr8_length] using hj)
    have hfin : ∀ j v, zero32[j]? = some v → (((w.alloc (.cells zero32.toArray 24)).alloc (.cells zero32.toArray 24)).setCells w.heap.size 0 zero32).cell? ⟨w.heap.size, 0 + j, none⟩ = some v := (hz.setCells (t := List.replicate 32 0) rfl).get
    have K10 := hkw.trans (Kept.setCells w.heap.size zero32 0 ((w.alloc (.cells zero32.toArray 24)).alloc (.cells zero32.toArray 24))) (T := fun _ => False) (fun _ _ h => h) (fun i hi e => by omega)
    have Z1 := Lib.hid z1; have Z2 := Lib.hid z2; have HF := Lib.hid hfin; have HK := Lib.hid K10
    have HO : Hid (∀ v ∈ zero32, v.oneCell' = true) := arr8_one _
    have HSD : Hid ((Tryd.prog.info? 24).map (·.size) = some zero32.length) := by
      show _ = some zero32.length
      rw [zero32, arr8_length, List.length_replicate]; exact size32b
    have H64 : Hid (¬ ss.length = 64) := h64
    have hi64 : ¬ (ss.length : Int) = 64 := by omega
    have hld : ∀ j v, zero32[j]? = some v → ((w.alloc (.cells zero32.toArray 24)).alloc (.cells zero32.toArray 24)).cell? ⟨w.heap.size + 1, 0 + j, none⟩ = some v := by
      have := blk_new (w.alloc (.cells zero32.toArray 24)) zero32.toArray 24 (List.replicate 32 0) (by simp [zero32])
      rw [show (w.alloc (.cells zero32.toArray 24)).heap.size = w.heap.size + 1 by simp] at this
      exact this.get
    have HLD := Lib.hid hld
    clear z1 z2 hfin K10 hz hkw hld
    generalize ss.length = n at *
    go_wp2_with (first | (refine wpList_load_at rfl 24 _ rfl (w.heap.size + 1) 0 rfl zero32 _ HLD.out Tryd.underlying24 rfl HSD.out ?_) | (refine wpList_store_at rfl 24 _ _ rfl w.heap.size 0 zero32 rfl rfl Z1.out Z2.out HO.out HSD.out ?_))
    refine bodyPost_ret_by (v := .tuple #[.agg zero32.toArray, .bool false]) ?_ ?_ ?_
    · exact results_cell_slot Tryd.results38 _ _ w.heap.size zero32 _ _ rfl rfl HF.out Tryd.underlying24 rfl HSD.out
    · rfl
    · exact ⟨HK.out, Or.inr ⟨Or.inl H64.out, rfl⟩⟩
end Go.Proofs.YtnjmffmdlaobdabDoor
