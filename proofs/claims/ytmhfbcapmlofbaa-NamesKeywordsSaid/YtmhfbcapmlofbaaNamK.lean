/-
  arbaclaw08.NamesKeywords returns true.
-/
import Derived.Test.YtmhfbcapmlofbaaNamAd
import Derived.Deep.RegionHeld3
import Derived.Laws.Cover1
import Derived.Laws.Concat
import Derived.Deep.DrawnRows
namespace Go.Proofs.Ytmhfbcapmlofbaa
open Go.RowKit
attribute [local go_sem ↓] Go.wp_at_zero Go.wp_at_succ
set_option linter.unusedSimpArgs false

theorem kw_short : ∀ x ∈ kwdL, x.size ≤ 7 := by decide +kernel
theorem kw_bad {x : ByteArray} (h : x ∈ kwdL) : validS x = false := by
  unfold validS
  rw [(memS_iff x kwdL).2 h]; simp
theorem kw_x : ∀ x ∈ kwdL, validS (⟨#[120]⟩ ++ x) = true := by
  simp only [validS, memS_data]
  decide +kernel
theorem kw_2 : ∀ x ∈ kwdL, validS (x ++ ⟨#[50]⟩) = true := by
  simp only [validS, memS_data]
  decide +kernel
theorem kw_lt : ∀ k, k < 19 → Op.bytesLess (kwdL.getD k ⟨#[]⟩).data.toList (kwdL.getD (k + 1) ⟨#[]⟩).data.toList = true := by decide +kernel
theorem kw_mem {k : Nat} (h : k < 20) : kwdL.getD k ⟨#[]⟩ ∈ kwdL := by
  have h2 : k < kwdL.length := h
  simp [List.getD, h2]

/-- The keywords' block. -/
def kwC : Array Value := (kwdL.map Value.string).toArray

set_option maxRecDepth 100000 in
theorem keywords_new (w : World) : Calls Try.prog 8 #[] w fun e w' => e = .returned (.slice (some ⟨w.heap.size, 0, none⟩) 20 20) ∧ w' = w.alloc (.cells kwC 9) := by
  go_enter Try.func8, Try.ntmps8
  go_wp2_with fail
  go_ret
  exact ⟨rfl, rfl⟩

theorem kw_cell (w : World) (k : Nat) (h : k < 20) : (w.alloc (.cells kwC 9)).cell? ⟨w.heap.size, k, none⟩ = some (.string (kwdL.getD k ⟨#[]⟩)) := by
  rw [cell_of_row _ w.heap.size k _ 9 (0, 0) (heap_alloc_new w _)]
  have h2 : k < kwdL.length := h
  have : kwC.toList[k]? = some (.string (kwdL.getD k ⟨#[]⟩)) := by
    show (kwdL.map Value.string)[k]? = _
    simp [List.getD, h2]
  simpa using this

set_option maxRecDepth 100000 in
set_option maxHeartbeats 6400000 in
theorem keywords8_any (n : Nat) (w : World) (hn : n < 256) :
    Calls Try.prog 3 #[.int .u8 n] w fun e w' => e = .returned (.bool true) ∧ Kept (fun _ => False) w w' := by
  obtain ⟨r, hr⟩ : ∃ r, r = n % 20 := ⟨_, rfl⟩
  have hr20 : r < 20 := by omega
  have hE : Hid (IntKind.i64.wrap (n : Int) = (n : Int) ∧ (n : Int).tmod 20 = (r : Int) ∧ (n : Int) % 20 = (r : Int)) := ⟨IntWalk.i64_in _ (by omega), by rw [Int.tmod_eq_emod_of_nonneg (by omega)]; omega, by omega⟩
  clear hr
  go_enter Try.func3, Try.ntmps3
  go_wp2_with fail
  refine (awake8_any w).mono ?_
  rintro e w0 ⟨rfl, k0⟩
  have K0 := Lib.hid k0
  have hsz0 := k0.size
  clear k0
  go_wp2_with fail
  refine (keywords_new w0).mono ?_
  rintro e w1 ⟨rfl, hw1⟩
  have hcell1 : Hid (∀ W, Kept (fun _ => False) w1 W → ∀ k, k < 20 → W.cell? ⟨w0.heap.size, k, none⟩ = some (.string (kwdL.getD k ⟨#[]⟩))) := fun W hk k hk20 => by
    subst hw1
    exact (hk.cell (p := ⟨w0.heap.size, k, none⟩) (by simp) (fun h => h)).trans (kw_cell w0 k hk20)
  have hfrz1 : Hid (∀ W, Kept (fun _ => False) w1 W → W.frozen? ⟨w0.heap.size, 0, none⟩ = false) := fun W hk => by
    subst hw1
    exact (hk.frozen (p := ⟨w0.heap.size, 0, none⟩) (by simp) (fun h => h)).trans (frozen_of_row _ _ 0 _ _ (heap_alloc_new w0 _))
  have hstr1 : Hid (∀ W, Kept (fun _ => False) w1 W → Strs W (.slice (some ⟨w0.heap.size, 0, none⟩) 20 20) kwdL) := fun W hk => by
    subst hw1
    exact (strs_new w0 kwC 9 20 kwdL rfl rfl (by unfold maxLen; omega)).kept hk (fun _ _ h => h)
  have K1 : Hid (Kept (fun _ => False) w w1) := by rw [hw1]; exact K0.out.then (Kept.alloc _ _ _)
  clear hw1
  obtain ⟨gl, hgl⟩ : ∃ gl, gl = w0.heap.size := ⟨_, rfl⟩
  rw [← hgl] at hcell1 hfrz1 hstr1 ⊢
  have hge : w.heap.size ≤ gl := by omega
  clear hgl hsz0
  go_wp2_with fail
  refine (rkeywords_any w1).mono ?_
  rintro e w2 ⟨rfl, hs2, k2⟩
  have HS2 := Lib.hid hs2; have D2 := Lib.hid k2
  clear hs2 k2
  go_wp2_with fail
  refine (rsame8_any _ _ kwdL kwdL w2 (hstr1.out w2 D2.out) HS2.out).mono ?_
  rw [show decide (kwdL = kwdL) = true by simp]
  rintro e w3 ⟨rfl, k3⟩
  have D3 := Lib.hid (D2.out.then k3)
  clear k3 HS2
  have hcr := hcell1.out w3 D3.out r hr20
  obtain ⟨y, hy⟩ : ∃ y, y = kwdL.getD r ⟨#[]⟩ := ⟨_, rfl⟩
  have hym : y ∈ kwdL := by rw [hy]; exact kw_mem hr20
  have hy7 := kw_short y hym
  have hyv := kw_2 y hym
  rw [← hy] at hcr
  have HYV := Lib.hid hyv
  have r0 : (0 : Int) ≤ (r : Int) := by omega
  have r1 : (r : Int) < 20 := by omega
  obtain ⟨e1, e2, e3⟩ := hE.out
  clear hy hym hyv
  go_wp2_with fail
  clear e1 e2 e3 hcr r0 r1
  have D3' : Hid (Kept (fun _ => False) w1 w3) := D3
  go_loopw [26] (fun iv wr => ∃ k : Nat, k ≤ 20 ∧ iv = .int .i64 k ∧ Hid (Kept (fun _ => False) w1 wr)) (fun iv _ => 20 - (intOf iv).toNat)
  case atStart => exact ⟨0, by omega, rfl, D3'⟩
  case round =>
    obtain ⟨k, hk, rfl, hkw⟩ := hrel
    by_cases hlt : k < 20
    · have l1 : (k : Int) < 20 := by omega
      have l0 : (0 : Int) ≤ (k : Int) := by omega
      obtain ⟨x, hx⟩ : ∃ x, x = kwdL.getD k ⟨#[]⟩ := ⟨_, rfl⟩
      have hxm : x ∈ kwdL := by rw [hx]; exact kw_mem hlt
      have hx7 := kw_short x hxm
      have hcx : ∀ W, Kept (fun _ => False) wr W → W.cell? ⟨gl, k, none⟩ = some (.string x) := fun W hk => by rw [hx]; exact hcell1.out W (hkw.out.then hk) k hlt
      have HV1 := Lib.hid (fun (W : World) => valid_any x W)
      have HV2 := Lib.hid (fun (W : World) => valid_any (⟨#[120]⟩ ++ x) W)
      rw [kw_bad hxm] at HV1
      rw [kw_x x hxm] at HV2
      have D4 := Lib.hid ((Kept.refl (fun _ => False) wr).drew)
      have HC1 := Lib.hid hcx
      have hadd : ∀ W : World, (Op.stringOp .add ⟨#[120]⟩ x).run Try.prog W = .ok (.string (⟨#[120]⟩ ++ x)) W := fun W => run_string_add_sum W _ _ (by show 1 + x.size ≤ 9223372036854775807; omega)
      by_cases hk0 : k = 0
      · have hd : decide ((0 : Int) < (k : Int)) = false := by simp [hk0]
        have hd2 : decide (0 < k) = false := by simp [hk0]
        have HK0 := Lib.hid hk0
        clear hxm hx hcx hk0
        go_wp2_with fail
        refine wp_region_held_drew (S := fun w' => w'.cell? ⟨gl, k, none⟩ = some (.string x)) (by kernel_rfl) (HC1.out _ D4.out) (fun _ => ?_)
        refine wpAnyH_take (i := 0) (v := .slice (some ⟨gl, 0, none⟩) 20 20) rfl (by kernel_rfl) (by kernel_rfl) (by kernel_rfl) (fun _ _ _ h => h) (Or.inl ⟨by simp [Region.wanted, yielded], fun W hS => by go_simp⟩) (HC1.out _ D4.out) ?_
        try (simp only [Act.put, List.getElem_toArray, List.getElem_cons_succ, List.getElem_cons_zero, List.setIfInBounds_toArray, List.set_cons_zero, List.set_cons_succ])
        refine wpAnyH_take (i := 1) (v := .int .i64 (k : Int)) rfl (by kernel_rfl) (by kernel_rfl) (by kernel_rfl) (fun _ _ _ h => h) (Or.inl ⟨by simp [Region.wanted, yielded], fun W hS => by go_simp⟩) (HC1.out _ D4.out) ?_
        try (simp only [Act.put, List.getElem_toArray, List.getElem_cons_succ, List.getElem_cons_zero, List.setIfInBounds_toArray, List.set_cons_zero, List.set_cons_succ])
        refine wpAnyH_take (i := 2) (v := .pointer (some ⟨gl, k, none⟩)) rfl (by kernel_rfl) (by kernel_rfl) (by kernel_rfl) (fun _ _ _ h => h) (Or.inl ⟨by simp [Region.wanted, yielded], fun W hS => by go_simp⟩) (HC1.out _ D4.out) ?_
        try (simp only [Act.put, List.getElem_toArray, List.getElem_cons_succ, List.getElem_cons_zero, List.setIfInBounds_toArray, List.set_cons_zero, List.set_cons_succ])
        refine wpAnyH_take (i := 3) (v := .string x) rfl (by kernel_rfl) (by kernel_rfl) (by kernel_rfl) (fun _ _ _ h => h) (Or.inl ⟨by simp [Region.wanted, yielded], fun W hS => by go_simp⟩) (HC1.out _ D4.out) ?_
        try (simp only [Act.put, List.getElem_toArray, List.getElem_cons_succ, List.getElem_cons_zero, List.setIfInBounds_toArray, List.set_cons_zero, List.set_cons_succ])
        refine wpAnyH_ready (rs := [4]) (by kernel_rfl) (by simp) ?_
        refine AllReadyH.cons (o := _) rfl (fun K hK => ?_) AllReadyH.nil
        rw [if_pos (by simp [Region.wanted, yielded])]
        go_simp
        go_at_call 11
        refine (HV1.out wr.drew).mono ?_
        rintro e w5 ⟨rfl, k5⟩; have D5 := Lib.hid (D4.out.then k5); clear k5
        go_wp2_with fail
        refine hK.out _ _ (HC1.out _ D5.out) (fun _ => ?_)
        clear hK K
        try (simp only [Act.put, List.getElem_toArray, List.getElem_cons_succ, List.getElem_cons_zero, List.setIfInBounds_toArray, List.set_cons_zero, List.set_cons_succ])
        refine wpAnyH_take (i := 5) (v := .bool false) rfl (by kernel_rfl) (by kernel_rfl) (by kernel_rfl) (fun _ _ _ h => h) (Or.inl ⟨by simp [Region.wanted, yielded], fun W hS => by go_simp⟩) (HC1.out _ D5.out) ?_
        try (simp only [Act.put, List.getElem_toArray, List.getElem_cons_succ, List.getElem_cons_zero, List.setIfInBounds_toArray, List.set_cons_zero, List.set_cons_succ])
        refine wpAnyH_take (i := 6) (v := .slice (some ⟨gl, 0, none⟩) 20 20) rfl (by kernel_rfl) (by kernel_rfl) (by kernel_rfl) (fun _ _ _ h => h) (Or.inl ⟨by simp [Region.wanted, yielded], fun W hS => by go_simp⟩) (HC1.out _ D5.out) ?_
        try (simp only [Act.put, List.getElem_toArray, List.getElem_cons_succ, List.getElem_cons_zero, List.setIfInBounds_toArray, List.set_cons_zero, List.set_cons_succ])
        refine wpAnyH_take (i := 7) (v := .int .i64 (k : Int)) rfl (by kernel_rfl) (by kernel_rfl) (by kernel_rfl) (fun _ _ _ h => h) (Or.inl ⟨by simp [Region.wanted, yielded], fun W hS => by go_simp⟩) (HC1.out _ D5.out) ?_
        try (simp only [Act.put, List.getElem_toArray, List.getElem_cons_succ, List.getElem_cons_zero, List.setIfInBounds_toArray, List.set_cons_zero, List.set_cons_succ])
        refine wpAnyH_take (i := 8) (v := .pointer (some ⟨gl, k, none⟩)) rfl (by kernel_rfl) (by kernel_rfl) (by kernel_rfl) (fun _ _ _ h => h) (Or.inl ⟨by simp [Region.wanted, yielded], fun W hS => by go_simp⟩) (HC1.out _ D5.out) ?_
        try (simp only [Act.put, List.getElem_toArray, List.getElem_cons_succ, List.getElem_cons_zero, List.setIfInBounds_toArray, List.set_cons_zero, List.set_cons_succ])
        refine wpAnyH_take (i := 9) (v := .string x) rfl (by kernel_rfl) (by kernel_rfl) (by kernel_rfl) (fun _ _ _ h => h) (Or.inl ⟨by simp [Region.wanted, yielded], fun W hS => by go_simp⟩) (HC1.out _ D5.out) ?_
        try (simp only [Act.put, List.getElem_toArray, List.getElem_cons_succ, List.getElem_cons_zero, List.setIfInBounds_toArray, List.set_cons_zero, List.set_cons_succ])
        refine wpAnyH_take (i := 10) (v := .string (⟨#[120]⟩ ++ x)) rfl (by kernel_rfl) (by kernel_rfl) (by kernel_rfl) (fun _ _ _ h => h) (Or.inl ⟨by simp [Region.wanted, yielded], fun W hS => by go_simp⟩) (HC1.out _ D5.out) ?_
        try (simp only [Act.put, List.getElem_toArray, List.getElem_cons_succ, List.getElem_cons_zero, List.setIfInBounds_toArray, List.set_cons_zero, List.set_cons_succ])
        refine wpAnyH_ready (rs := [11]) (by kernel_rfl) (by simp) ?_
        refine AllReadyH.cons (o := _) rfl (fun K hK => ?_) AllReadyH.nil
        rw [if_pos (by simp [Region.wanted, yielded])]
        go_simp
        go_at_call 11
        refine (HV2.out w5).mono ?_
        rintro e w6 ⟨rfl, k6⟩; have D6 := Lib.hid (D5.out.then k6); clear k6
        go_wp2_with fail
        refine hK.out _ _ (HC1.out _ D6.out) (fun _ => ?_)
        clear hK K
        try (simp only [Act.put, List.getElem_toArray, List.getElem_cons_succ, List.getElem_cons_zero, List.setIfInBounds_toArray, List.set_cons_zero, List.set_cons_succ])
        refine wpAnyH_take (i := 12) (v := .bool false) rfl (by kernel_rfl) (by kernel_rfl) (by kernel_rfl) (fun _ _ _ h => h) (Or.inl ⟨by simp [Region.wanted, yielded], fun W hS => by go_simp⟩) (HC1.out _ D6.out) ?_
        try (simp only [Act.put, List.getElem_toArray, List.getElem_cons_succ, List.getElem_cons_zero, List.setIfInBounds_toArray, List.set_cons_zero, List.set_cons_succ])
        refine wpAnyH_take (i := 13) (v := .bool false) rfl (by kernel_rfl) (by kernel_rfl) (by kernel_rfl) (fun _ _ _ h => h) (Or.inl ⟨by simp [Region.wanted, yielded], fun W hS => by go_simp⟩) (HC1.out _ D6.out) ?_
        try (simp only [Act.put, List.getElem_toArray, List.getElem_cons_succ, List.getElem_cons_zero, List.setIfInBounds_toArray, List.set_cons_zero, List.set_cons_succ])
        refine wpAnyH_take (i := 14) (v := .bool false) rfl (by kernel_rfl) (by kernel_rfl) (by kernel_rfl) (fun _ _ _ h => h) (Or.inl ⟨by simp [Region.wanted, yielded], fun W hS => by go_simp⟩) (HC1.out _ D6.out) ?_
        try (simp only [Act.put, List.getElem_toArray, List.getElem_cons_succ, List.getElem_cons_zero, List.setIfInBounds_toArray, List.set_cons_zero, List.set_cons_succ])
        refine wpAnyH_take (i := 15) (v := .int .i64 (k : Int)) rfl (by kernel_rfl) (by kernel_rfl) (by kernel_rfl) (fun _ _ _ h => h) (Or.inl ⟨by simp [Region.wanted, yielded], fun W hS => by go_simp⟩) (HC1.out _ D6.out) ?_
        try (simp only [Act.put, List.getElem_toArray, List.getElem_cons_succ, List.getElem_cons_zero, List.setIfInBounds_toArray, List.set_cons_zero, List.set_cons_succ])
        refine wpAnyH_take (i := 16) (v := .bool false) rfl (by kernel_rfl) (by kernel_rfl) (by kernel_rfl) (fun _ _ _ h => h) (Or.inl ⟨by simp [Region.wanted, yielded], fun W hS => by go_simp⟩) (HC1.out _ D6.out) ?_
        try (simp only [Act.put, List.getElem_toArray, List.getElem_cons_succ, List.getElem_cons_zero, List.setIfInBounds_toArray, List.set_cons_zero, List.set_cons_succ])
        refine wpAnyH_take (i := 17) (v := .bool false) rfl (by kernel_rfl) (by kernel_rfl) (by kernel_rfl) (fun _ _ _ h => h) (Or.inl ⟨by simp [Region.wanted, yielded], fun W hS => by go_simp⟩) (HC1.out _ D6.out) ?_
        try (simp only [Act.put, List.getElem_toArray, List.getElem_cons_succ, List.getElem_cons_zero, List.setIfInBounds_toArray, List.set_cons_zero, List.set_cons_succ])
        refine wpAnyH_take (i := 18) (v := undef) rfl (by kernel_rfl) (by kernel_rfl) (by kernel_rfl) (fun _ _ _ h => h) (Or.inr ⟨by first | (simp [Region.wanted, yielded]; done) | (simp [Region.wanted, yielded, undef]; done), rfl⟩) (HC1.out _ D6.out) ?_
        try (simp only [Act.put, List.getElem_toArray, List.getElem_cons_succ, List.getElem_cons_zero, List.setIfInBounds_toArray, List.set_cons_zero, List.set_cons_succ])
        refine wpAnyH_take (i := 19) (v := undef) rfl (by kernel_rfl) (by kernel_rfl) (by kernel_rfl) (fun _ _ _ h => h) (Or.inr ⟨by first | (simp [Region.wanted, yielded]; done) | (simp [Region.wanted, yielded, undef]; done), rfl⟩) (HC1.out _ D6.out) ?_
        try (simp only [Act.put, List.getElem_toArray, List.getElem_cons_succ, List.getElem_cons_zero, List.setIfInBounds_toArray, List.set_cons_zero, List.set_cons_succ])
        refine wpAnyH_take (i := 20) (v := undef) rfl (by kernel_rfl) (by kernel_rfl) (by kernel_rfl) (fun _ _ _ h => h) (Or.inr ⟨by first | (simp [Region.wanted, yielded]; done) | (simp [Region.wanted, yielded, undef]; done), rfl⟩) (HC1.out _ D6.out) ?_
        try (simp only [Act.put, List.getElem_toArray, List.getElem_cons_succ, List.getElem_cons_zero, List.setIfInBounds_toArray, List.set_cons_zero, List.set_cons_succ])
        refine wpAnyH_take (i := 21) (v := undef) rfl (by kernel_rfl) (by kernel_rfl) (by kernel_rfl) (fun _ _ _ h => h) (Or.inr ⟨by first | (simp [Region.wanted, yielded]; done) | (simp [Region.wanted, yielded, undef]; done), rfl⟩) (HC1.out _ D6.out) ?_
        try (simp only [Act.put, List.getElem_toArray, List.getElem_cons_succ, List.getElem_cons_zero, List.setIfInBounds_toArray, List.set_cons_zero, List.set_cons_succ])
        refine wpAnyH_take (i := 22) (v := undef) rfl (by kernel_rfl) (by kernel_rfl) (by kernel_rfl) (fun _ _ _ h => h) (Or.inr ⟨by first | (simp [Region.wanted, yielded]; done) | (simp [Region.wanted, yielded, undef]; done), rfl⟩) (HC1.out _ D6.out) ?_
        try (simp only [Act.put, List.getElem_toArray, List.getElem_cons_succ, List.getElem_cons_zero, List.setIfInBounds_toArray, List.set_cons_zero, List.set_cons_succ])
        refine wpAnyH_take (i := 23) (v := undef) rfl (by kernel_rfl) (by kernel_rfl) (by kernel_rfl) (fun _ _ _ h => h) (Or.inr ⟨by first | (simp [Region.wanted, yielded]; done) | (simp [Region.wanted, yielded, undef]; done), rfl⟩) (HC1.out _ D6.out) ?_
        try (simp only [Act.put, List.getElem_toArray, List.getElem_cons_succ, List.getElem_cons_zero, List.setIfInBounds_toArray, List.set_cons_zero, List.set_cons_succ])
        refine wpAnyH_take (i := 24) (v := undef) rfl (by kernel_rfl) (by kernel_rfl) (by kernel_rfl) (fun _ _ _ h => h) (Or.inr ⟨by first | (simp [Region.wanted, yielded]; done) | (simp [Region.wanted, yielded, undef]; done), rfl⟩) (HC1.out _ D6.out) ?_
        try (simp only [Act.put, List.getElem_toArray, List.getElem_cons_succ, List.getElem_cons_zero, List.setIfInBounds_toArray, List.set_cons_zero, List.set_cons_succ])
        refine wpAnyH_take (i := 25) (v := undef) rfl (by kernel_rfl) (by kernel_rfl) (by kernel_rfl) (fun _ _ _ h => h) (Or.inr ⟨by first | (simp [Region.wanted, yielded]; done) | (simp [Region.wanted, yielded, undef]; done), rfl⟩) (HC1.out _ D6.out) ?_
        try (simp only [Act.put, List.getElem_toArray, List.getElem_cons_succ, List.getElem_cons_zero, List.setIfInBounds_toArray, List.set_cons_zero, List.set_cons_succ])
        refine wpAnyH_take (i := 26) (v := undef) rfl (by kernel_rfl) (by kernel_rfl) (by kernel_rfl) (fun _ _ _ h => h) (Or.inr ⟨by first | (simp [Region.wanted, yielded]; done) | (simp [Region.wanted, yielded, undef]; done), rfl⟩) (HC1.out _ D6.out) ?_
        try (simp only [Act.put, List.getElem_toArray, List.getElem_cons_succ, List.getElem_cons_zero, List.setIfInBounds_toArray, List.set_cons_zero, List.set_cons_succ])
        refine wpAnyH_take (i := 27) (v := undef) rfl (by kernel_rfl) (by kernel_rfl) (by kernel_rfl) (fun _ _ _ h => h) (Or.inr ⟨by first | (simp [Region.wanted, yielded]; done) | (simp [Region.wanted, yielded, undef]; done), rfl⟩) (HC1.out _ D6.out) ?_
        try (simp only [Act.put, List.getElem_toArray, List.getElem_cons_succ, List.getElem_cons_zero, List.setIfInBounds_toArray, List.set_cons_zero, List.set_cons_succ])
        refine wpAnyH_take (i := 28) (v := .bool false) rfl (by kernel_rfl) (by kernel_rfl) (by kernel_rfl) (fun _ _ _ h => h) (Or.inl ⟨by simp [Region.wanted, yielded], fun W hS => by go_simp⟩) (HC1.out _ D6.out) ?_
        try (simp only [Act.put, List.getElem_toArray, List.getElem_cons_succ, List.getElem_cons_zero, List.setIfInBounds_toArray, List.set_cons_zero, List.set_cons_succ])
        refine wpAnyH_take (i := 29) (v := .bool false) rfl (by kernel_rfl) (by kernel_rfl) (by kernel_rfl) (fun _ _ _ h => h) (Or.inl ⟨by simp [Region.wanted, yielded], fun W hS => by go_simp⟩) (HC1.out _ D6.out) ?_
        try (simp only [Act.put, List.getElem_toArray, List.getElem_cons_succ, List.getElem_cons_zero, List.setIfInBounds_toArray, List.set_cons_zero, List.set_cons_succ])
        refine wpAnyH_done (by kernel_rfl) ?_ _
        have HK6 := Lib.hid (hkw.out.then D6.out)
        clear hadd hd hd2
        go_wp2_with fail
        go_roundw
        case rel => exact ⟨k + 1, by omega, by go_num, HK6⟩
        case measure => simp [intOf]; omega
      · obtain ⟨j, hj⟩ : ∃ j, k = j + 1 := ⟨k - 1, by omega⟩
        obtain ⟨z, hz⟩ : ∃ z, z = kwdL.getD j ⟨#[]⟩ := ⟨_, rfl⟩
        have hcz : ∀ W, Kept (fun _ => False) wr W → W.cell? ⟨gl, j, none⟩ = some (.string z) := fun W hk => by rw [hz]; exact hcell1.out W (hkw.out.then hk) j (by omega)
        have hless : Op.bytesLess z.toList x.toList = true := by
          rw [ByteArray.toList_eq, ByteArray.toList_eq, hz, hx, hj]; exact kw_lt j (by omega)
        have HC2 := Lib.hid hcz
        have l2 : decide ((0 : Int) < (k : Int)) = true := by simp; omega
        have l2n : decide (0 < k) = true := by simp; omega
        have l3 : (0 : Int) ≤ (j : Int) := by omega
        have l4 : (j : Int) < 20 := by omega
        have l5 : (1 : Int) ≤ (k : Int) := by omega
        have l6 : (k : Int) - 1 = (j : Int) := by omega
        clear hxm hx hcx hz hcz hk0 hj
        go_wp2_with fail
        refine wp_region_held_drew (S := fun w' => w'.cell? ⟨gl, k, none⟩ = some (.string x) ∧ w'.cell? ⟨gl, j, none⟩ = some (.string z)) (by kernel_rfl) ⟨HC1.out _ D4.out, HC2.out _ D4.out⟩ (fun _ => ?_)
        refine wpAnyH_take (i := 0) (v := .slice (some ⟨gl, 0, none⟩) 20 20) rfl (by kernel_rfl) (by kernel_rfl) (by kernel_rfl) (fun _ _ _ h => h) (Or.inl ⟨by simp [Region.wanted, yielded], fun W hS => by go_simp⟩) ⟨HC1.out _ D4.out, HC2.out _ D4.out⟩ ?_
        try (simp only [Act.put, List.getElem_toArray, List.getElem_cons_succ, List.getElem_cons_zero, List.setIfInBounds_toArray, List.set_cons_zero, List.set_cons_succ])
        refine wpAnyH_take (i := 1) (v := .int .i64 (k : Int)) rfl (by kernel_rfl) (by kernel_rfl) (by kernel_rfl) (fun _ _ _ h => h) (Or.inl ⟨by simp [Region.wanted, yielded], fun W hS => by go_simp⟩) ⟨HC1.out _ D4.out, HC2.out _ D4.out⟩ ?_
        try (simp only [Act.put, List.getElem_toArray, List.getElem_cons_succ, List.getElem_cons_zero, List.setIfInBounds_toArray, List.set_cons_zero, List.set_cons_succ])
        refine wpAnyH_take (i := 2) (v := .pointer (some ⟨gl, k, none⟩)) rfl (by kernel_rfl) (by kernel_rfl) (by kernel_rfl) (fun _ _ _ h => h) (Or.inl ⟨by simp [Region.wanted, yielded], fun W hS => by go_simp⟩) ⟨HC1.out _ D4.out, HC2.out _ D4.out⟩ ?_
        try (simp only [Act.put, List.getElem_toArray, List.getElem_cons_succ, List.getElem_cons_zero, List.setIfInBounds_toArray, List.set_cons_zero, List.set_cons_succ])
        refine wpAnyH_take (i := 3) (v := .string x) rfl (by kernel_rfl) (by kernel_rfl) (by kernel_rfl) (fun _ _ _ h => h) (Or.inl ⟨by simp [Region.wanted, yielded], fun W hS => by have h1 := hS.1; have h2 := hS.2; go_simp⟩) ⟨HC1.out _ D4.out, HC2.out _ D4.out⟩ ?_
        try (simp only [Act.put, List.getElem_toArray, List.getElem_cons_succ, List.getElem_cons_zero, List.setIfInBounds_toArray, List.set_cons_zero, List.set_cons_succ])
        refine wpAnyH_ready (rs := [4]) (by kernel_rfl) (by simp) ?_
        refine AllReadyH.cons (o := _) rfl (fun K hK => ?_) AllReadyH.nil
        rw [if_pos (by simp [Region.wanted, yielded])]
        go_simp
        go_at_call 11
        refine (HV1.out wr.drew).mono ?_
        rintro e w5 ⟨rfl, k5⟩; have D5 := Lib.hid (D4.out.then k5); clear k5
        go_wp2_with fail
        refine hK.out _ _ ⟨HC1.out _ D5.out, HC2.out _ D5.out⟩ (fun _ => ?_)
        clear hK K
        try (simp only [Act.put, List.getElem_toArray, List.getElem_cons_succ, List.getElem_cons_zero, List.setIfInBounds_toArray, List.set_cons_zero, List.set_cons_succ])
        refine wpAnyH_take (i := 5) (v := .bool false) rfl (by kernel_rfl) (by kernel_rfl) (by kernel_rfl) (fun _ _ _ h => h) (Or.inl ⟨by simp [Region.wanted, yielded], fun W hS => by go_simp⟩) ⟨HC1.out _ D5.out, HC2.out _ D5.out⟩ ?_
        try (simp only [Act.put, List.getElem_toArray, List.getElem_cons_succ, List.getElem_cons_zero, List.setIfInBounds_toArray, List.set_cons_zero, List.set_cons_succ])
        refine wpAnyH_take (i := 6) (v := .slice (some ⟨gl, 0, none⟩) 20 20) rfl (by kernel_rfl) (by kernel_rfl) (by kernel_rfl) (fun _ _ _ h => h) (Or.inl ⟨by simp [Region.wanted, yielded], fun W hS => by go_simp⟩) ⟨HC1.out _ D5.out, HC2.out _ D5.out⟩ ?_
        try (simp only [Act.put, List.getElem_toArray, List.getElem_cons_succ, List.getElem_cons_zero, List.setIfInBounds_toArray, List.set_cons_zero, List.set_cons_succ])
        refine wpAnyH_take (i := 7) (v := .int .i64 (k : Int)) rfl (by kernel_rfl) (by kernel_rfl) (by kernel_rfl) (fun _ _ _ h => h) (Or.inl ⟨by simp [Region.wanted, yielded], fun W hS => by go_simp⟩) ⟨HC1.out _ D5.out, HC2.out _ D5.out⟩ ?_
        try (simp only [Act.put, List.getElem_toArray, List.getElem_cons_succ, List.getElem_cons_zero, List.setIfInBounds_toArray, List.set_cons_zero, List.set_cons_succ])
        refine wpAnyH_take (i := 8) (v := .pointer (some ⟨gl, k, none⟩)) rfl (by kernel_rfl) (by kernel_rfl) (by kernel_rfl) (fun _ _ _ h => h) (Or.inl ⟨by simp [Region.wanted, yielded], fun W hS => by go_simp⟩) ⟨HC1.out _ D5.out, HC2.out _ D5.out⟩ ?_
        try (simp only [Act.put, List.getElem_toArray, List.getElem_cons_succ, List.getElem_cons_zero, List.setIfInBounds_toArray, List.set_cons_zero, List.set_cons_succ])
        refine wpAnyH_take (i := 9) (v := .string x) rfl (by kernel_rfl) (by kernel_rfl) (by kernel_rfl) (fun _ _ _ h => h) (Or.inl ⟨by simp [Region.wanted, yielded], fun W hS => by have h1 := hS.1; have h2 := hS.2; go_simp⟩) ⟨HC1.out _ D5.out, HC2.out _ D5.out⟩ ?_
        try (simp only [Act.put, List.getElem_toArray, List.getElem_cons_succ, List.getElem_cons_zero, List.setIfInBounds_toArray, List.set_cons_zero, List.set_cons_succ])
        refine wpAnyH_take (i := 10) (v := .string (⟨#[120]⟩ ++ x)) rfl (by kernel_rfl) (by kernel_rfl) (by kernel_rfl) (fun _ _ _ h => h) (Or.inl ⟨by simp [Region.wanted, yielded], fun W hS => by go_simp⟩) ⟨HC1.out _ D5.out, HC2.out _ D5.out⟩ ?_
        try (simp only [Act.put, List.getElem_toArray, List.getElem_cons_succ, List.getElem_cons_zero, List.setIfInBounds_toArray, List.set_cons_zero, List.set_cons_succ])
        refine wpAnyH_ready (rs := [11]) (by kernel_rfl) (by simp) ?_
        refine AllReadyH.cons (o := _) rfl (fun K hK => ?_) AllReadyH.nil
        rw [if_pos (by simp [Region.wanted, yielded])]
        go_simp
        go_at_call 11
        refine (HV2.out w5).mono ?_
        rintro e w6 ⟨rfl, k6⟩; have D6 := Lib.hid (D5.out.then k6); clear k6
        go_wp2_with fail
        refine hK.out _ _ ⟨HC1.out _ D6.out, HC2.out _ D6.out⟩ (fun _ => ?_)
        clear hK K
        try (simp only [Act.put, List.getElem_toArray, List.getElem_cons_succ, List.getElem_cons_zero, List.setIfInBounds_toArray, List.set_cons_zero, List.set_cons_succ])
        refine wpAnyH_take (i := 12) (v := .bool false) rfl (by kernel_rfl) (by kernel_rfl) (by kernel_rfl) (fun _ _ _ h => h) (Or.inl ⟨by simp [Region.wanted, yielded], fun W hS => by go_simp⟩) ⟨HC1.out _ D6.out, HC2.out _ D6.out⟩ ?_
        try (simp only [Act.put, List.getElem_toArray, List.getElem_cons_succ, List.getElem_cons_zero, List.setIfInBounds_toArray, List.set_cons_zero, List.set_cons_succ])
        refine wpAnyH_take (i := 13) (v := .bool false) rfl (by kernel_rfl) (by kernel_rfl) (by kernel_rfl) (fun _ _ _ h => h) (Or.inl ⟨by simp [Region.wanted, yielded], fun W hS => by go_simp⟩) ⟨HC1.out _ D6.out, HC2.out _ D6.out⟩ ?_
        try (simp only [Act.put, List.getElem_toArray, List.getElem_cons_succ, List.getElem_cons_zero, List.setIfInBounds_toArray, List.set_cons_zero, List.set_cons_succ])
        refine wpAnyH_take (i := 14) (v := .bool false) rfl (by kernel_rfl) (by kernel_rfl) (by kernel_rfl) (fun _ _ _ h => h) (Or.inl ⟨by simp [Region.wanted, yielded], fun W hS => by go_simp⟩) ⟨HC1.out _ D6.out, HC2.out _ D6.out⟩ ?_
        try (simp only [Act.put, List.getElem_toArray, List.getElem_cons_succ, List.getElem_cons_zero, List.setIfInBounds_toArray, List.set_cons_zero, List.set_cons_succ])
        refine wpAnyH_take (i := 15) (v := .int .i64 (k : Int)) rfl (by kernel_rfl) (by kernel_rfl) (by kernel_rfl) (fun _ _ _ h => h) (Or.inl ⟨by simp [Region.wanted, yielded], fun W hS => by go_simp⟩) ⟨HC1.out _ D6.out, HC2.out _ D6.out⟩ ?_
        try (simp only [Act.put, List.getElem_toArray, List.getElem_cons_succ, List.getElem_cons_zero, List.setIfInBounds_toArray, List.set_cons_zero, List.set_cons_succ])
        refine wpAnyH_take (i := 16) (v := .bool true) rfl (by kernel_rfl) (by kernel_rfl) (by kernel_rfl) (fun _ _ _ h => h) (Or.inl ⟨by simp [Region.wanted, yielded], fun W hS => by go_simp⟩) ⟨HC1.out _ D6.out, HC2.out _ D6.out⟩ ?_
        try (simp only [Act.put, List.getElem_toArray, List.getElem_cons_succ, List.getElem_cons_zero, List.setIfInBounds_toArray, List.set_cons_zero, List.set_cons_succ])
        refine wpAnyH_take (i := 17) (v := .bool true) rfl (by kernel_rfl) (by kernel_rfl) (by kernel_rfl) (fun _ _ _ h => h) (Or.inl ⟨by simp [Region.wanted, yielded], fun W hS => by go_simp⟩) ⟨HC1.out _ D6.out, HC2.out _ D6.out⟩ ?_
        try (simp only [Act.put, List.getElem_toArray, List.getElem_cons_succ, List.getElem_cons_zero, List.setIfInBounds_toArray, List.set_cons_zero, List.set_cons_succ])
        refine wpAnyH_take (i := 18) (v := .slice (some ⟨gl, 0, none⟩) 20 20) rfl (by kernel_rfl) (by kernel_rfl) (by kernel_rfl) (fun _ _ _ h => h) (Or.inl ⟨by simp [Region.wanted, yielded], fun W hS => by go_simp⟩) ⟨HC1.out _ D6.out, HC2.out _ D6.out⟩ ?_
        try (simp only [Act.put, List.getElem_toArray, List.getElem_cons_succ, List.getElem_cons_zero, List.setIfInBounds_toArray, List.set_cons_zero, List.set_cons_succ])
        refine wpAnyH_take (i := 19) (v := .int .i64 (k : Int)) rfl (by kernel_rfl) (by kernel_rfl) (by kernel_rfl) (fun _ _ _ h => h) (Or.inl ⟨by simp [Region.wanted, yielded], fun W hS => by go_simp⟩) ⟨HC1.out _ D6.out, HC2.out _ D6.out⟩ ?_
        try (simp only [Act.put, List.getElem_toArray, List.getElem_cons_succ, List.getElem_cons_zero, List.setIfInBounds_toArray, List.set_cons_zero, List.set_cons_succ])
        refine wpAnyH_take (i := 20) (v := .int .i64 (j : Int)) rfl (by kernel_rfl) (by kernel_rfl) (by kernel_rfl) (fun _ _ _ h => h) (Or.inl ⟨by simp [Region.wanted, yielded], fun W hS => by go_simp; exact IntWalk.i64_in _ (by omega)⟩) ⟨HC1.out _ D6.out, HC2.out _ D6.out⟩ ?_
        try (simp only [Act.put, List.getElem_toArray, List.getElem_cons_succ, List.getElem_cons_zero, List.setIfInBounds_toArray, List.set_cons_zero, List.set_cons_succ])
        refine wpAnyH_take (i := 21) (v := .pointer (some ⟨gl, j, none⟩)) rfl (by kernel_rfl) (by kernel_rfl) (by kernel_rfl) (fun _ _ _ h => h) (Or.inl ⟨by simp [Region.wanted, yielded], fun W hS => by go_simp⟩) ⟨HC1.out _ D6.out, HC2.out _ D6.out⟩ ?_
        try (simp only [Act.put, List.getElem_toArray, List.getElem_cons_succ, List.getElem_cons_zero, List.setIfInBounds_toArray, List.set_cons_zero, List.set_cons_succ])
        refine wpAnyH_take (i := 22) (v := .string z) rfl (by kernel_rfl) (by kernel_rfl) (by kernel_rfl) (fun _ _ _ h => h) (Or.inl ⟨by simp [Region.wanted, yielded], fun W hS => by have h1 := hS.1; have h2 := hS.2; go_simp⟩) ⟨HC1.out _ D6.out, HC2.out _ D6.out⟩ ?_
        try (simp only [Act.put, List.getElem_toArray, List.getElem_cons_succ, List.getElem_cons_zero, List.setIfInBounds_toArray, List.set_cons_zero, List.set_cons_succ])
        refine wpAnyH_take (i := 23) (v := .slice (some ⟨gl, 0, none⟩) 20 20) rfl (by kernel_rfl) (by kernel_rfl) (by kernel_rfl) (fun _ _ _ h => h) (Or.inl ⟨by simp [Region.wanted, yielded], fun W hS => by go_simp⟩) ⟨HC1.out _ D6.out, HC2.out _ D6.out⟩ ?_
        try (simp only [Act.put, List.getElem_toArray, List.getElem_cons_succ, List.getElem_cons_zero, List.setIfInBounds_toArray, List.set_cons_zero, List.set_cons_succ])
        refine wpAnyH_take (i := 24) (v := .int .i64 (k : Int)) rfl (by kernel_rfl) (by kernel_rfl) (by kernel_rfl) (fun _ _ _ h => h) (Or.inl ⟨by simp [Region.wanted, yielded], fun W hS => by go_simp⟩) ⟨HC1.out _ D6.out, HC2.out _ D6.out⟩ ?_
        try (simp only [Act.put, List.getElem_toArray, List.getElem_cons_succ, List.getElem_cons_zero, List.setIfInBounds_toArray, List.set_cons_zero, List.set_cons_succ])
        refine wpAnyH_take (i := 25) (v := .pointer (some ⟨gl, k, none⟩)) rfl (by kernel_rfl) (by kernel_rfl) (by kernel_rfl) (fun _ _ _ h => h) (Or.inl ⟨by simp [Region.wanted, yielded], fun W hS => by go_simp⟩) ⟨HC1.out _ D6.out, HC2.out _ D6.out⟩ ?_
        try (simp only [Act.put, List.getElem_toArray, List.getElem_cons_succ, List.getElem_cons_zero, List.setIfInBounds_toArray, List.set_cons_zero, List.set_cons_succ])
        refine wpAnyH_take (i := 26) (v := .string x) rfl (by kernel_rfl) (by kernel_rfl) (by kernel_rfl) (fun _ _ _ h => h) (Or.inl ⟨by simp [Region.wanted, yielded], fun W hS => by have h1 := hS.1; have h2 := hS.2; go_simp⟩) ⟨HC1.out _ D6.out, HC2.out _ D6.out⟩ ?_
        try (simp only [Act.put, List.getElem_toArray, List.getElem_cons_succ, List.getElem_cons_zero, List.setIfInBounds_toArray, List.set_cons_zero, List.set_cons_succ])
        refine wpAnyH_take (i := 27) (v := .bool false) rfl (by kernel_rfl) (by kernel_rfl) (by kernel_rfl) (fun _ _ _ h => h) (Or.inl ⟨by simp [Region.wanted, yielded], fun W hS => by go_simp⟩) ⟨HC1.out _ D6.out, HC2.out _ D6.out⟩ ?_
        try (simp only [Act.put, List.getElem_toArray, List.getElem_cons_succ, List.getElem_cons_zero, List.setIfInBounds_toArray, List.set_cons_zero, List.set_cons_succ])
        refine wpAnyH_take (i := 28) (v := .bool false) rfl (by kernel_rfl) (by kernel_rfl) (by kernel_rfl) (fun _ _ _ h => h) (Or.inl ⟨by simp [Region.wanted, yielded], fun W hS => by go_simp⟩) ⟨HC1.out _ D6.out, HC2.out _ D6.out⟩ ?_
        try (simp only [Act.put, List.getElem_toArray, List.getElem_cons_succ, List.getElem_cons_zero, List.setIfInBounds_toArray, List.set_cons_zero, List.set_cons_succ])
        refine wpAnyH_take (i := 29) (v := .bool false) rfl (by kernel_rfl) (by kernel_rfl) (by kernel_rfl) (fun _ _ _ h => h) (Or.inl ⟨by simp [Region.wanted, yielded], fun W hS => by go_simp⟩) ⟨HC1.out _ D6.out, HC2.out _ D6.out⟩ ?_
        try (simp only [Act.put, List.getElem_toArray, List.getElem_cons_succ, List.getElem_cons_zero, List.setIfInBounds_toArray, List.set_cons_zero, List.set_cons_succ])
        refine wpAnyH_done (by kernel_rfl) ?_ _
        have HK6 := Lib.hid (hkw.out.then D6.out)
        clear hadd hless l2 l2n l6
        go_wp2_with fail
        go_roundw
        case rel => exact ⟨k + 1, by omega, by go_num, HK6⟩
        case measure => simp [intOf]; omega
    · obtain rfl : k = 20 := by omega
      have hc0 := hcell1.out wr hkw.out 0 (by omega)
      have hf0 := hfrz1.out wr hkw.out
      have hadd : ∀ W : World, (Op.stringOp .add y ⟨#[50]⟩).run Try.prog W = .ok (.string (y ++ ⟨#[50]⟩)) W := fun W => run_string_add_sum W _ _ (by show y.size + 1 ≤ 9223372036854775807; omega)
      have HV := Lib.hid (fun (W : World) => valid_any (y ++ ⟨#[50]⟩) W)
      rw [HYV.out] at HV
      have k5 := (K1.out.then hkw.out).trans (Kept.setCell (fun i => i = gl) wr ⟨gl, 0, none⟩ (.string ⟨#[99, 104, 97, 110, 103, 101, 100]⟩) rfl) (T := fun _ => False) (fun _ _ h => h) (fun i hi e => by omega)
      have K5 := Lib.hid k5
      clear k5
      go_wp2_with fail
      clear hadd hc0 hf0
      generalize wr.setCell ⟨gl, 0, none⟩ (.string ⟨#[99, 104, 97, 110, 103, 101, 100]⟩) = w5 at K5 ⊢
      refine (HV.out w5).mono ?_
      rintro e w6 ⟨rfl, k6⟩
      have K6 := Lib.hid (K5.out.then k6)
      clear k6
      go_wp2_with fail
      refine (keywords_new w6).mono ?_
      rintro e w7 ⟨rfl, hw7⟩
      have hc7 : w7.cell? ⟨w6.heap.size, 0, none⟩ = some (.string ⟨#[97, 108, 108]⟩) := by rw [hw7]; exact kw_cell w6 0 (by omega)
      have K7 : Hid (Kept (fun _ => False) w w7) := by rw [hw7]; exact K6.out.then (Kept.alloc _ _ _)
      clear hw7
      go_wp2_with fail
      go_ret
      exact ⟨rfl, K7.out⟩
end Go.Proofs.Ytmhfbcapmlofbaa
