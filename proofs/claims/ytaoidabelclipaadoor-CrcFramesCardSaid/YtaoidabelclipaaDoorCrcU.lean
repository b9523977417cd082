/-
  The reference of crc: four, Frame, Next, Scan.
-/
import Derived.Test.YtaoidabelclipaaDoorCrcV
import Derived.Test.YtaoidabelclipaaDoorCrcR
import Derived.Test.YtaoidabelclipaaDoorAppR
namespace Go.Proofs.YtaoidabelclipaaDoor
open Go.RowKit

set_option maxRecDepth 100000 in
set_option maxHeartbeats 400000 in
theorem four_any (n : Nat) (w : World) (hn : n < 2 ^ 32) :
    Calls Tryd.prog 67 #[.int .u32 n] w fun e w' => ∃ v', e = .returned v' ∧ Fresh w' w.heap.size v' (le4 n) ∧ Kept (fun _ => False) w w' := by
  obtain ⟨c0, h0⟩ : ∃ c, c = n % 256 := ⟨_, rfl⟩
  obtain ⟨c1, h1⟩ : ∃ c, c = n / 256 % 256 := ⟨_, rfl⟩
  obtain ⟨c2, h2⟩ : ∃ c, c = n / 65536 % 256 := ⟨_, rfl⟩
  obtain ⟨c3, h3⟩ : ∃ c, c = n / 16777216 % 256 := ⟨_, rfl⟩
  have hle : le4 n = [c0, c1, c2, c3] := by simp [le4, h0, h1, h2, h3]
  have HL := Lib.hid hle; clear hle
  have e0 : (n : Int) % 256 = c0 := by omega
  have e1 : (n : Int) / 256 % 256 = c1 := by omega
  have e2 : (n : Int) / 65536 % 256 = c2 := by omega
  have e3 : (n : Int) / 16777216 = c3 := by omega
  clear h0 h1 h2 h3
  go_enter Tryd.func67, Tryd.ntmps67
  go_wp2_with fail
  go_ret
  rw [HL.out]
  exact ⟨_, rfl, ⟨owns_lit w w.heap.size _ [c0, c1, c2, c3] 4 rfl rfl (Nat.le_refl _) (by simp [maxLen]), fun k hk => by simp [Value.ownBlock] at hk; omega⟩, Kept.alloc _ _ _⟩

set_option maxRecDepth 100000 in
set_option maxHeartbeats 1600000 in
theorem rframe_any (p : Value) (xs : List Nat) (w : World) (hp : Reads w p xs) (hb : ∀ x ∈ xs, x < 256) (hl : xs.length ≤ 9000) :
    Calls Tryd.prog 37 #[p] w fun e w' => ∃ v', e = .returned v' ∧ Fresh w' w.heap.size v' (frameS xs) ∧ Kept (fun _ => False) w w' := by
  obtain ⟨a, c, hform⟩ := hp.form
  have HP := Lib.hid hp; have HB := Lib.hid hb
  clear hp hb
  have hl' : (xs.length : Int) ≤ 9000 := by omega
  have hw : IntKind.u32.wrap (xs.length : Int) = (xs.length : Int) := IntWalk.u32_in _ (by omega)
  subst hform
  obtain ⟨hs, hhs⟩ : ∃ hs, hs = le4 xs.length := ⟨_, rfl⟩
  have hsb : ∀ x ∈ hs, x < 256 := by rw [hhs]; exact le4_byte _
  have hs4 : hs.length = 4 := by rw [hhs]; rfl
  have HHS := Lib.hid hhs; have HSB := Lib.hid hsb; have HS4 := Lib.hid hs4; clear hhs hsb hs4
  go_enter Tryd.func37, Tryd.ntmps37
  go_wp2_with fail
  refine (four_any xs.length w (by omega)).mono ?_
  rintro e w1 ⟨v1, rfl, hf1, hk1⟩
  rw [← HHS.out] at hf1
  obtain ⟨a1, c1, hv1⟩ := hf1.reads.form
  subst hv1
  have HF1 := Lib.hid hf1; clear hf1
  go_wp2_with fail
  refine (rsum_any _ hs w1 HF1.out.reads HSB.out).mono ?_
  rintro e w2 ⟨rfl, rfl⟩
  go_wp2_with fail
  refine (rupdate_any (crcS hs) _ xs w1 (crcU_lt (by omega) HSB.out) (HP.out.kept hk1 (fun _ _ h => h)) HB.out).mono ?_
  rintro e w2 ⟨rfl, rfl⟩
  have hql : crcU (crcS hs) xs < 2 ^ 32 := crcU_lt (crcU_lt (by omega) HSB.out) HB.out
  obtain ⟨q, hq⟩ : ∃ q, q = crcU (crcS hs) xs := ⟨_, rfl⟩
  rw [← hq] at hql ⊢
  have HQ := Lib.hid hq; clear hq
  go_wp2_with fail
  refine (four_any q w1 hql).mono ?_
  rintro e w2 ⟨v2, rfl, hf2, hk2⟩
  obtain ⟨qs, hqs⟩ : ∃ qs, qs = le4 q := ⟨_, rfl⟩
  rw [← hqs] at hf2
  have hq4 : qs.length = 4 := by rw [hqs]; rfl
  have HQS := Lib.hid hqs; have HQ4 := Lib.hid hq4; clear hqs hq4
  obtain ⟨a2, c2, hv2⟩ := hf2.reads.form
  subst hv2
  have f1 : Fresh w2 w.heap.size (.slice a1 hs.length c1) hs := ⟨hk2.owns HF1.out.own (fun _ _ h => h), HF1.out.block⟩
  have hk02 := hk1.then hk2
  obtain ⟨a3, c3, w3, r1, f3, k3⟩ := append_reads_run f1 hf2.reads (by rw [HS4.out, HQ4.out]; omega) hk02.size
  have hk03 : Kept (fun _ => False) w w3 := hk02.trans k3 (fun _ _ h => h) (fun i hi hb => by have := f1.block i hb; omega)
  obtain ⟨zs, hzs⟩ : ∃ zs, zs = hs ++ qs := ⟨_, rfl⟩
  rw [← hzs] at r1 f3
  have hz8 : zs.length = 8 := by rw [hzs, List.length_append, HS4.out, HQ4.out]
  obtain ⟨a4, c4, w4, r2, f4, k4⟩ := append_reads_run f3 (HP.out.kept hk03 (fun _ _ h => h)) (by rw [hz8]; omega) hk03.size
  have hk04 : Kept (fun _ => False) w w4 := hk03.trans k4 (fun _ _ h => h) (fun i hi hb => by have := f3.block i hb; omega)
  obtain ⟨ys, hys⟩ : ∃ ys, ys = zs ++ xs := ⟨_, rfl⟩
  rw [← hys] at r2 f4
  have hfin : frameS xs = ys := by rw [frameS, hys, hzs, HHS.out, HQS.out, HQ.out, HHS.out, List.append_assoc]
  have HFIN := Lib.hid hfin; have R1 := Lib.hid r1; have R2 := Lib.hid r2; have F4 := Lib.hid f4
  clear hfin r1 r2 f4 hys hzs hz8 f3 k3 k4 f1 hf2
  go_wp2_with (first | (at_builtin; refine wpList_append_run (by rfl) _ _ _ _ rfl _ _ rfl rfl R1.out ?_) | (at_builtin; refine wpList_append_run (by rfl) _ _ _ _ rfl _ _ rfl rfl R2.out ?_))
  go_ret
  rw [HFIN.out]
  exact ⟨_, rfl, F4.out, hk04⟩
end Go.Proofs.YtaoidabelclipaaDoor
