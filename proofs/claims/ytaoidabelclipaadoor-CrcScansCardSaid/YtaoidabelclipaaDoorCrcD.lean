/-
  (arbaclaw04.Damage).apply: some bytes.
-/
import Derived.Test.YtaoidabelclipaaDoorCrcG
import Derived.Deep.RegionHeld3
import Derived.BigRegion
namespace Go.Proofs.YtaoidabelclipaaDoor
open Go.RowKit

theorem rb3 (w : World) (v0 v1 v2 : Value) (x0 x1 x2 : List Nat) (T : TypeId) (h0 : Reads w v0 x0) (h1 : Reads w v1 x1) (h2 : Reads w v2 x2) :
    RB (w.alloc (.cells #[v0, v1, v2] T)) w.heap.size 0 3 (fun i => [v0, v1, v2].getD i (.bool false)) (fun i => [x0, x1, x2].getD i []) := by
  have hk := Kept.alloc (fun _ => False) w (.cells #[v0, v1, v2] T)
  refine ⟨by simp, fun i hi => ?_, fun i hi => ?_⟩
  · match i, hi with
    | 0, _ => go_simp
    | 1, _ => go_simp
    | 2, _ => go_simp
  · match i, hi with
    | 0, _ => exact h0.kept hk (fun _ _ h => h)
    | 1, _ => exact h1.kept hk (fun _ _ h => h)
    | 2, _ => exact h2.kept hk (fun _ _ h => h)

theorem reads_drew {w : World} {v : Value} {xs : List Nat} (h : Reads w v xs) : Reads w.drew v xs := h.kept (Kept.refl (fun _ => False) w).drew (fun _ _ h => h)
theorem reads_set {w : World} {g off n c k : Nat} {xs : List Nat} (h : Reads w (.slice (some ⟨g, off, none⟩) n c) xs) (hk : k < xs.length) (y : Nat) : Reads (w.setCell ⟨g, off + k, none⟩ (.int .u8 y)) (.slice (some ⟨g, off, none⟩) n c) (xs.set k y) := by
  rcases h with ⟨h, _⟩ | ⟨g', off', cap, h, h1, h2, h3, h4⟩
  · cases h
  · cases h
    refine Or.inr ⟨g, off, _, by rw [List.length_set], by rw [List.length_set]; exact h1, h2, by simpa [World.setCell] using h3, fun i hi => ?_⟩
    rw [List.length_set] at hi
    have hik := h4 i hi
    by_cases e : i = k
    · subst e
      have h := hik
      rw [World.cell?_setCell_same _ _ _ h]
      simp [List.getD, hi]
    · have hne : (⟨g, off + k, none⟩ : Addr) ≠ ⟨g, off + i, none⟩ := by intro h; injection h with _ h _; omega
      have hs : (xs.set k y).getD i 0 = xs.getD i 0 := by simp [List.getD, Ne.symm e]
      rw [hs, World.cell?_setCell_other _ _ _ _ hne, hik]
theorem xor_byte (x L : Nat) (hx : x < 256) (hL : L < 256) : ∃ y : Nat, y < 256 ∧ bits .xor .u8 (x : Int) (L : Int) = (y : Int) :=
  ⟨x ^^^ L, Nat.xor_lt_two_pow (n := 8) hx hL, by rw [u8_xor_nat _ _ (by omega) (by omega)]⟩

/-- What apply answers: some bytes. -/
def SomeBytes (w w' : World) (e : Ending) : Prop := ∃ v' zs, e = .returned v' ∧ Reads w' v' zs ∧ (∀ x ∈ zs, x < 256) ∧ zs.length ≤ 30000 ∧ Kept (fun _ => False) w w'

set_option maxRecDepth 100000 in
set_option maxHeartbeats 1600000 in
theorem apply_any (kd bt at' : Nat) (ma : Option Addr) (mn mc : Nat) (ms xs : List Nat) (p : Value) (B : Nat) (w : World) (hm : Loose w (.slice ma mn mc) ms B) (hmb : ∀ x ∈ ms, x < 256) (hp : Reads w p xs) (hb : ∀ x ∈ xs, x < 256) (hl : xs.length ≤ 2464)
    (h1 : kd < 256) (h2 : bt < 256) (h3 : at' < 65536) :
    Calls Tryd.prog 39 #[.agg #[.int .u8 kd, .int .u8 bt, .int .u16 at', .slice ma mn mc], p] w fun e w' => SomeBytes w w' e := by
  obtain ⟨a, c, hpf⟩ := hp.form
  have HM := Lib.hid hm; have HMB := Lib.hid hmb; have HP := Lib.hid hp; have HB := Lib.hid hb
  clear hm hmb hp hb
  subst hpf
  have hk1 := Kept.alloc (fun _ => False) w (.cells #[.int .u8 kd, .int .u8 bt, .int .u16 at', .slice ma mn mc] 66)
  have hrA := HP.out.kept hk1 (fun _ _ h => h)
  have hwc : IntKind.i64.wrap (at' : Int) = (at' : Int) := IntWalk.i64_in _ (by omega)
  have HRA := Lib.hid hrA; have HK1 := Lib.hid hk1
  clear hrA hk1
  go_enter Tryd.func39, Tryd.ntmps39
  go_wp2_with fail
  refine (bclone_any _ xs _ HRA.out (by omega)).mono ?_
  rintro e w1 ⟨v1, rfl, hf1, hkc⟩
  have cell := fun (i : Nat) => hkc.cell (p := ⟨w.heap.size, i, none⟩) (by simp) (fun h => h)
  have c0 : w1.cell? ⟨w.heap.size, 0, none⟩ = some (.int .u8 kd) := (cell 0).trans (by go_simp)
  have c1 : w1.cell? ⟨w.heap.size, 1, none⟩ = some (.int .u8 bt) := (cell 1).trans (by go_simp)
  have c2 : w1.cell? ⟨w.heap.size, 2, none⟩ = some (.int .u16 at') := (cell 2).trans (by go_simp)
  have c3 : w1.cell? ⟨w.heap.size, 3, none⟩ = some (.slice ma mn mc) := (cell 3).trans (by go_simp)
  obtain ⟨a1, d1, hv1⟩ := hf1.reads.form
  have hkw := HK1.out.then hkc
  have hblk := hf1.block
  subst hv1
  have HF1 := Lib.hid hf1; have HKW := Lib.hid hkw
  have hw1s := hkc.size
  simp at hw1s
  clear cell hf1 hkc hkw HRA HK1
  obtain ⟨k, hk⟩ : ∃ k, k = at' % (xs.length + 1) := ⟨_, rfl⟩
  have hke : (at' : Int) % ((xs.length : Int) + 1) = (k : Int) := by rw [hk, Int.natCast_emod, Int.natCast_add]; rfl
  have hkl : k ≤ xs.length := by
    have := Nat.mod_lt at' (show 0 < xs.length + 1 by omega)
    omega
  clear hk
  obtain ⟨hbe1, hbe2, hcap⟩ := HF1.out.reads.behind hkl
  have htk := HF1.out.reads.takeV k hkl
  have htb : ∀ x ∈ xs.take k, x < 256 := fun x hx => HB.out x (List.mem_of_mem_take hx)
  have n1 : (k : Int) ≤ xs.length := by omega
  have n2 : k ≤ d1 := by omega
  have n3 : (k : Int) ≤ d1 := by omega
  have n0 : (0 : Int) ≤ (k : Int) := by omega
  have n4 : (xs.length : Int) ≤ (d1 : Int) := by omega
  have HTK := Lib.hid htk; have HTB := Lib.hid htb; have HE1 := Lib.hid hbe1; have HE2 := Lib.hid hbe2
  clear htk htb hbe1 hbe2
  have h012 : (kd : Int) % 3 = 0 ∨ (kd : Int) % 3 = 1 ∨ (kd : Int) % 3 = 2 := by omega
  rcases h012 with h | h | h
  · go_wp2_with fail
    go_ret
    exact ⟨_, xs.take k, rfl, HTK.out, HTB.out, by simp; omega, HKW.out⟩
  · by_cases hkx : k < xs.length
    · have hkx' : (k : Int) < xs.length := by omega
      obtain ⟨g, off, rfl, _, hcell⟩ := HF1.out.reads.at hkx
      obtain ⟨x, hx⟩ : ∃ x, x = xs.getD k 0 := ⟨_, rfl⟩
      have hxb : x < 256 := by rw [hx]; exact getD8 HB.out k
      rw [← hx] at hcell
      clear hx
      have hgw : w.heap.size ≠ g := fun e => by have := hblk g rfl; simp at this; omega
      have hfrz : w1.frozen? ⟨g, off + k, none⟩ = false := by
        rcases HF1.out.own.2 with ⟨h1, _⟩ | ⟨g', cap, cur, h1, hb, hg, h5, h6, h7, h8⟩
        · cases h1
        · cases h1
          exact frozen_of_row w1 _ _ cur _ hg
      have hsc : ((bt : Int).tmod 8 = 0 ∧ ∃ y : Nat, y < 256 ∧ bits .xor .u8 (x : Int) 1 = (y : Int)) ∨ ((bt : Int).tmod 8 = 1 ∧ ∃ y : Nat, y < 256 ∧ bits .xor .u8 (x : Int) 2 = (y : Int)) ∨
          ((bt : Int).tmod 8 = 2 ∧ ∃ y : Nat, y < 256 ∧ bits .xor .u8 (x : Int) 4 = (y : Int)) ∨ ((bt : Int).tmod 8 = 3 ∧ ∃ y : Nat, y < 256 ∧ bits .xor .u8 (x : Int) 8 = (y : Int)) ∨
          ((bt : Int).tmod 8 = 4 ∧ ∃ y : Nat, y < 256 ∧ bits .xor .u8 (x : Int) 16 = (y : Int)) ∨ ((bt : Int).tmod 8 = 5 ∧ ∃ y : Nat, y < 256 ∧ bits .xor .u8 (x : Int) 32 = (y : Int)) ∨
          ((bt : Int).tmod 8 = 6 ∧ ∃ y : Nat, y < 256 ∧ bits .xor .u8 (x : Int) 64 = (y : Int)) ∨ ((bt : Int).tmod 8 = 7 ∧ ∃ y : Nat, y < 256 ∧ bits .xor .u8 (x : Int) 128 = (y : Int)) := by
        have ht : (bt : Int).tmod 8 = (bt : Int) % 8 := Int.tmod_eq_emod_of_nonneg (by omega)
        rw [ht]
        have hb : (bt : Int) % 8 = 0 ∨ (bt : Int) % 8 = 1 ∨ (bt : Int) % 8 = 2 ∨ (bt : Int) % 8 = 3 ∨ (bt : Int) % 8 = 4 ∨ (bt : Int) % 8 = 5 ∨ (bt : Int) % 8 = 6 ∨ (bt : Int) % 8 = 7 := by omega
        rcases hb with h | h | h | h | h | h | h | h
        · exact Or.inl ⟨h, xor_byte x 1 hxb (by omega)⟩
        · exact Or.inr (Or.inl ⟨h, xor_byte x 2 hxb (by omega)⟩)
        · exact Or.inr (Or.inr (Or.inl ⟨h, xor_byte x 4 hxb (by omega)⟩))
        · exact Or.inr (Or.inr (Or.inr (Or.inl ⟨h, xor_byte x 8 hxb (by omega)⟩)))
        · exact Or.inr (Or.inr (Or.inr (Or.inr (Or.inl ⟨h, xor_byte x 16 hxb (by omega)⟩))))
        · exact Or.inr (Or.inr (Or.inr (Or.inr (Or.inr (Or.inl ⟨h, xor_byte x 32 hxb (by omega)⟩)))))
        · exact Or.inr (Or.inr (Or.inr (Or.inr (Or.inr (Or.inr (Or.inl ⟨h, xor_byte x 64 hxb (by omega)⟩))))))
        · exact Or.inr (Or.inr (Or.inr (Or.inr (Or.inr (Or.inr (Or.inr ⟨h, xor_byte x 128 hxb (by omega)⟩))))))
      have HFRZ := Lib.hid hfrz; have HCELL := Lib.hid hcell
      rcases hsc with ⟨hst, y, hyb, hxor⟩ | ⟨hst, y, hyb, hxor⟩ | ⟨hst, y, hyb, hxor⟩ | ⟨hst, y, hyb, hxor⟩ | ⟨hst, y, hyb, hxor⟩ | ⟨hst, y, hyb, hxor⟩ | ⟨hst, y, hyb, hxor⟩ | ⟨hst, y, hyb, hxor⟩
      all_goals
        go_wp2_with fail
        go_still_tail 10, (by kernel_rfl)
        change wpList _ _ _ _ _ w1.drew
        replace hcell : w1.drew.cell? _ = _ := hcell
        replace hfrz : w1.drew.frozen? _ = _ := hfrz
        go_wp2_with fail
        go_ret
        rw [hxor]
        refine ⟨_, xs.set k y, rfl, reads_drew (reads_set HF1.out.reads hkx y), ?_, by simp; omega, ?_⟩
        · intro z hz
          rcases List.mem_or_eq_of_mem_set hz with h | h
          · exact HB.out z h
          · rw [h]; exact hyb
        · exact (HKW.out.trans (Kept.setCell (fun i => i = g) w1 ⟨g, off + k, none⟩ (.int .u8 y) rfl) (fun _ _ h => h) (fun i hi e => by have := hblk g rfl; simp at this; omega)).drew
    · have hkx' : ¬ (k : Int) < xs.length := by omega
      go_wp2_with fail
      go_ret
      exact ⟨_, xs, rfl, HF1.out.reads, HB.out, by omega, HKW.out⟩
  · have hmw := HM.out.kept HKW.out.drew (fun _ _ h => h)
    have HMW := Lib.hid hmw
    have hwl : w.heap.size < w1.heap.size := by omega
    have hfin : ∀ (v0 p6 v2 : Value) (w6 w8 : World) (v8 : Value) (x2 : List Nat), (∀ x ∈ x2, x < 256) → x2.length ≤ 2464 → Kept (fun _ => False) w1.drew w6 → Fresh w8 (w6.alloc (.cells #[v0, p6, v2] 22)).heap.size v8 (catN (fun i => [xs.take k, ms.take 20, x2].getD i []) 3) → Kept (fun _ => False) (w6.alloc (.cells #[v0, p6, v2] 22)) w8 → SomeBytes w w8 (.returned v8) := fun v0 p6 v2 w6 w8 v8 x2 hx2 hl2 h6 h8 hk8 => by
      refine ⟨v8, _, rfl, h8.reads, catN_byte (N := 3) (fun i hi => ?_) 3 (by omega), ?_, HKW.out.drew.then (h6.then ((Kept.alloc _ _ _).then hk8))⟩
      · match i, hi with
        | 0, _ => exact HTB.out
        | 1, _ => exact fun x hx => HMB.out x (List.mem_of_mem_take hx)
        | 2, _ => exact hx2
      · refine Nat.le_trans (catN_len (N := 3) (M := 10000) (fun i hi => ?_) 3 (by omega)) (by omega)
        match i, hi with
        | 0, _ => simp; omega
        | 1, _ => simp; omega
        | 2, _ => simp; omega
    have few := few_loose (.slice ma mn mc) ms 20 B w1.drew HMW.out (by omega)
    have hfin' := hfin
    have HFIN := Lib.hid hfin
    have hdb : ∀ x ∈ xs.drop k, x < 256 := fun x hx => HB.out x (List.mem_of_mem_drop hx)
    have hdl : (xs.drop k).length ≤ 2464 := by simp; omega
    have hcl : ∀ x2 : List Nat, x2.length ≤ 2464 → ∀ i, i < 3 → ([xs.take k, ms.take 20, x2].getD i []).length ≤ 10000 := fun x2 h2 i hi => by
      match i, hi with
      | 0, _ => simp; omega
      | 1, _ => simp; omega
      | 2, _ => simp; omega
    clear hfin HFIN
    generalize ms.take 20 = m20 at few hcl hfin'
    have HFIN := Lib.hid hfin'; have FEW := Lib.hid few
    have HDB := Lib.hid hdb; have HCL := Lib.hid hcl; have HDL := Lib.hid hdl
    clear hmw hfin' hdb hcl hdl few
    by_cases hkc : k = d1
    · obtain ⟨e1, e2⟩ := HE1.out hkc
      have E2 := Lib.hid e2
      have HE := Lib.hid e1
      clear e1 e2 HE1 HE2
      subst hkc
      rw [HE.out] at hke
      go_wp2_with fail
      simp only [HE.out, hke]
      clear hke
      go_region_held3 (fun w' => w'.cell? ⟨w.heap.size, 3, none⟩ = some (.slice ma mn mc))
        (first | go_keep)
        ((first | (go_at_call 33; refine FEW.out.mono ?_; rintro e w6 ⟨p6, rfl, hf6, hk6⟩; obtain ⟨a6, c6, hv6⟩ := hf6.reads.form; subst hv6; have b6 : w6.cell? ⟨w.heap.size, 3, none⟩ = some (.slice ma mn mc) := (hk6.cell (p := ⟨w.heap.size, 3, none⟩) hwl (fun h => h)).trans (by exact c3); have HF6 := Lib.hid hf6; have HK6 := Lib.hid hk6; clear hf6 hk6) | (go_at_call 70; refine (concat_any w6.heap.size 0 3 3 _ _ _ (rb3 w6 _ _ _ (xs.take k) m20 (xs.drop k) _ (HTK.out.kept ((Kept.refl _ _).drew.then HK6.out) (fun _ _ h => h)) HF6.out.reads (E2.out.kept ((Kept.refl _ _).drew.then HK6.out) (fun _ _ h => h))) (by omega) (HCL.out _ HDL.out) (by omega)).mono ?_; rintro e w8 ⟨v8, rfl, hf8, hk8⟩; have b8 : w8.cell? ⟨w.heap.size, 3, none⟩ = some (.slice ma mn mc) := (((HK6.out.then (Kept.alloc _ _ _)).then hk8).cell (p := ⟨w.heap.size, 3, none⟩) hwl (fun h => h)).trans (by exact c3); have HF8 := Lib.hid hf8; have HK8 := Lib.hid hk8; clear hf8 hk8)))
      go_wp2_with fail
      go_ret
      exact HFIN.out _ _ _ w6 w8 v8 _ HDB.out HDL.out HK6.out HF8.out HK8.out
    · obtain ⟨g, off, rfl, e2⟩ := HE2.out hkc
      have E2 := Lib.hid e2
      have hkc' : ¬ d1 = k := fun e => hkc e.symm
      clear e2 HE1 HE2
      go_wp2_with fail
      simp only [hke]
      clear hke
      go_region_held3 (fun w' => w'.cell? ⟨w.heap.size, 3, none⟩ = some (.slice ma mn mc))
        (first | go_keep)
        ((first | (go_at_call 33; refine FEW.out.mono ?_; rintro e w6 ⟨p6, rfl, hf6, hk6⟩; obtain ⟨a6, c6, hv6⟩ := hf6.reads.form; subst hv6; have b6 : w6.cell? ⟨w.heap.size, 3, none⟩ = some (.slice ma mn mc) := (hk6.cell (p := ⟨w.heap.size, 3, none⟩) hwl (fun h => h)).trans (by exact c3); have HF6 := Lib.hid hf6; have HK6 := Lib.hid hk6; clear hf6 hk6) | (go_at_call 70; refine (concat_any w6.heap.size 0 3 3 _ _ _ (rb3 w6 _ _ _ (xs.take k) m20 (xs.drop k) _ (HTK.out.kept ((Kept.refl _ _).drew.then HK6.out) (fun _ _ h => h)) HF6.out.reads (E2.out.kept ((Kept.refl _ _).drew.then HK6.out) (fun _ _ h => h))) (by omega) (HCL.out _ HDL.out) (by omega)).mono ?_; rintro e w8 ⟨v8, rfl, hf8, hk8⟩; have b8 : w8.cell? ⟨w.heap.size, 3, none⟩ = some (.slice ma mn mc) := (((HK6.out.then (Kept.alloc _ _ _)).then hk8).cell (p := ⟨w.heap.size, 3, none⟩) hwl (fun h => h)).trans (by exact c3); have HF8 := Lib.hid hf8; have HK8 := Lib.hid hk8; clear hf8 hk8)))
      go_wp2_with fail
      go_ret
      exact HFIN.out _ _ _ w6 w8 v8 _ HDB.out HDL.out HK6.out HF8.out HK8.out
end Go.Proofs.YtaoidabelclipaaDoor
