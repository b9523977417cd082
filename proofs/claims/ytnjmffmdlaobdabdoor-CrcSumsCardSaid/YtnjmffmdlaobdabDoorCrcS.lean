/-
  arbaclaw04.CrcSums, arbaclaw04.CrcParts return true.
-/
import Derived.Test.YtnjmffmdlaobdabDoorCrcA
import Derived.Test.YtnjmffmdlaobdabDoorCrcR
import Derived.Test.YtnjmffmdlaobdabDoorArgIn
namespace Go.Proofs.YtnjmffmdlaobdabDoor
open Go.RowKit

set_option maxRecDepth 100000 in
set_option maxHeartbeats 800000 in
theorem sums_any (p : Value) (xs : List Nat) (c : Nat) (w : World) (hT : Tab w) (hp : InBytes w p xs) (hc : c < 2 ^ 32) :
    Calls Tryd.prog 13 #[p, .int .u32 c] w fun e w' => e = .returned (.bool true) ∧ Kept (fun _ => False) w w' := by
  have bx : ∀ x ∈ xs.take 4000, x < 256 := fun x hx => hp.byte x (List.mem_of_mem_take hx)
  have lx : (xs.take 4000).length ≤ 4000 := by simp; omega
  obtain ⟨a, cp, hpf⟩ := hp.reads.form
  have HP := Lib.hid hp; have HT := Lib.hid hT; have BX := Lib.hid bx
  clear hp hT bx
  subst hpf
  go_enter Tryd.func13, Tryd.ntmps13
  go_wp2_with fail
  refine (awake4_any w HT.out).mono ?_
  rintro e w0 ⟨rfl, hk0⟩
  go_wp2_with fail
  refine (few_any _ xs 4000 w0 (HP.out.reads.kept hk0 (fun _ _ h => h)) (by omega)).mono ?_
  rintro e w1 ⟨p1, rfl, hf1, hk1⟩
  generalize xs.take 4000 = us at *
  obtain ⟨a1, c1, hv1⟩ := hf1.reads.form
  have HF1 := Lib.hid hf1; clear hf1
  subst hv1
  go_wp2_with fail
  refine (bclone_any _ us w1 HF1.out.reads (by omega)).mono ?_
  rintro e w2 ⟨p2, rfl, hf2, hk2⟩
  have hk02 := (hk0.then hk1).then hk2
  have R1 := Lib.hid (HF1.out.reads.kept hk2 (fun _ _ h => h))
  have R2 := Lib.hid hf2.reads
  have HT2 := Lib.hid (HT.out.kept hk02 (fun h => h))
  obtain ⟨a2, c2, hv2⟩ := hf2.reads.form
  clear hf2 hk0 hk1 hk2
  subst hv2
  go_wp2_with fail
  refine (sum_any _ us w2 R1.out BX.out HT2.out).mono ?_
  rintro e w3 ⟨rfl, rfl⟩
  go_wp2_with fail
  refine (rsum_any _ us w2 R2.out BX.out).mono ?_
  rintro e w3 ⟨rfl, rfl⟩
  go_wp2_with fail
  refine (update_any c _ us w2 hc R1.out BX.out HT2.out).mono ?_
  rintro e w3 ⟨rfl, rfl⟩
  go_wp2_with fail
  refine (rupdate_any c _ us w2 hc R2.out BX.out).mono ?_
  rintro e w3 ⟨rfl, rfl⟩
  go_wp2_with fail
  refine (equalb_any w2 _ _ us us R1.out R2.out).mono ?_
  rw [show decide (us = us) = true by simp]
  rintro e w3 ⟨rfl, hk3⟩
  go_wp2_with fail
  go_ret
  exact ⟨rfl, hk02.then hk3⟩

set_option maxRecDepth 100000 in
set_option maxHeartbeats 1600000 in
theorem parts_any (p : Value) (xs : List Nat) (cut : Nat) (w : World) (hT : Tab w) (hp : InBytes w p xs) (hc : cut < 65536) :
    Calls Tryd.prog 14 #[p, .int .u16 cut] w fun e w' => e = .returned (.bool true) ∧ Kept (fun _ => False) w w' := by
  have bx : ∀ x ∈ xs.take 4000, x < 256 := fun x hx => hp.byte x (List.mem_of_mem_take hx)
  have lx : (xs.take 4000).length ≤ 4000 := by simp; omega
  obtain ⟨a, cp, hpf⟩ := hp.reads.form
  have HP := Lib.hid hp; have HT := Lib.hid hT; have BX := Lib.hid bx
  clear hp hT bx
  subst hpf
  have hw : IntKind.i64.wrap (cut : Int) = (cut : Int) := IntWalk.i64_in _ (by omega)
  go_enter Tryd.func14, Tryd.ntmps14
  go_wp2_with fail
  refine (awake4_any w HT.out).mono ?_
  rintro e w0 ⟨rfl, hk0⟩
  go_wp2_with fail
  refine (few_any _ xs 4000 w0 (HP.out.reads.kept hk0 (fun _ _ h => h)) (by omega)).mono ?_
  rintro e w1 ⟨p1, rfl, hf1, hk1⟩
  generalize xs.take 4000 = us at *
  have hkw := hk0.then hk1
  have r1 := hf1.reads
  have hT1 := HT.out.kept hkw (fun h => h)
  obtain ⟨a1, c1, hv1⟩ := r1.form
  subst hv1
  obtain ⟨k, hk⟩ : ∃ k, k = cut % (us.length + 1) := ⟨_, rfl⟩
  have hke : (cut : Int) % ((us.length : Int) + 1) = (k : Int) := by rw [hk, Int.natCast_emod, Int.natCast_add]; rfl
  have hkl : k ≤ us.length := by
    have := Nat.mod_lt cut (show 0 < us.length + 1 by omega)
    omega
  clear hf1 hk0 hk1 hk
  obtain ⟨hcap, _⟩ : us.length ≤ c1 ∧ True := by
    rcases r1 with ⟨h, rfl⟩ | ⟨g, off, cap, h, h1, _⟩
    · simp
    · cases h; exact ⟨h1, trivial⟩
  have hm := r1.le
  unfold maxLen at hm
  have b1 : ∀ x ∈ us.take k, x < 256 := fun x hx => BX.out x (List.mem_of_mem_take hx)
  have b2 : ∀ x ∈ us.drop k, x < 256 := fun x hx => BX.out x (List.mem_of_mem_drop hx)
  have t1 := r1.takeV k hkl
  have m1l : crcS (us.take k) < 2 ^ 32 := crcU_lt (by omega) b1
  have rl : crcS us < 2 ^ 32 := crcU_lt (by omega) BX.out
  have hsum : crcU (crcS (us.take k)) (us.drop k) = crcS us := by
    show crcU (crcU 0 _) _ = _
    rw [crcU_append, List.take_append_drop]; rfl
  have K := fun (j : Nat) => (Kept.refl (fun _ => False) w1).drewN j
  have D1 := fun (j : Nat) => sum_any _ _ (w1.drewN j) (t1.kept (K j) (fun _ _ h => h)) b1 (hT1.kept (K j) (fun h => h))
  have D3 := fun (j : Nat) => sum_any _ _ (w1.drewN j) (r1.kept (K j) (fun _ _ h => h)) BX.out (hT1.kept (K j) (fun h => h))
  have D4 := fun (j : Nat) => update_any 0 _ _ (w1.drewN j) (by omega) (r1.kept (K j) (fun _ _ h => h)) BX.out (hT1.kept (K j) (fun h => h))
  have D5 := fun (j : Nat) => update_any (crcS us) (.slice none 0 0) [] (w1.drewN j) rl (Or.inl ⟨rfl, rfl⟩) (by simp) (hT1.kept (K j) (fun h => h))
  rw [crcU_nil] at D5
  have hz : crcU 0 us = crcS us := rfl
  rw [hz] at D4
  have U2 := fun (v : Value) (hv : Reads w1 v (us.drop k)) (j : Nat) => update_any (crcS (us.take k)) v _ (w1.drewN j) m1l (hv.kept (K j) (fun _ _ h => h)) b2 (hT1.kept (K j) (fun h => h))
  rw [hsum] at U2
  have hr0 : k ≠ c1 → ∃ g off, a1 = some ⟨g, off, none⟩ ∧ Reads w1 (.slice (some ⟨g, off + k, none⟩) (us.length - k) (c1 - k)) (us.drop k) := fun hne => by
    have r1' := r1
    rcases r1 with ⟨h, h2⟩ | ⟨g, off, cap, h, _⟩
    · exfalso; injection h with e1 e2 e3; omega
    · cases h; exact ⟨g, off, rfl, Reads.drop k r1' hkl⟩
  have hr1 : k = c1 → Reads w1 (.slice a1 0 0) (us.drop k) := fun he => by
    have h0 : us.drop k = [] := List.drop_of_length_le (by omega)
    rw [h0]
    rcases r1 with ⟨h, h2⟩ | ⟨g, off, cap, h, _, _, h4, _⟩
    · injection h with e1 e2 e3; rw [e1]; exact Or.inl ⟨rfl, rfl⟩
    · cases h; exact Or.inr ⟨g, off, 0, rfl, by simp, by simp, h4, fun i hi => by simp at hi⟩
  have hmr : k = c1 → crcS (us.take k) = crcS us := fun he => by rw [List.take_of_length_le (by omega)]
  generalize crcS (us.take k) = m1 at *
  generalize crcS us = r at *
  have HMR := Lib.hid hmr; clear hmr
  have H1 := Lib.hid D1; have H3 := Lib.hid D3; have H4 := Lib.hid D4; have H5 := Lib.hid D5; have HU := Lib.hid U2
  have HR0 := Lib.hid hr0; have HR1 := Lib.hid hr1; have HKW := Lib.hid hkw
  clear D1 D3 D4 D5 U2 K hsum t1 r1 hT1 b1 b2 hz hr0 hr1 hkw
  have k1 : (k : Int) ≤ us.length := by omega
  have k2 : k ≤ c1 := by omega
  have k3 : (k : Int) ≤ c1 := by omega
  by_cases hkc : k = c1
  · have hul : us.length = k := by omega
    have H2 := Lib.hid (HU.out _ (HR1.out hkc))
    obtain rfl := HMR.out hkc
    clear HU HR0 HR1 HMR
    subst hkc
    rw [hul] at H3 H4 ⊢
    have hke' : (cut : Int) % ((k : Int) + 1) = (k : Int) := by rw [hul] at hke; exact hke
    clear hke hul k1
    go_wp2_with fail
    go_quiet ((first | (go_at_call 44; with_reducible exact quiet_left (H1.out _)) | (go_at_call 44; with_reducible exact quiet_left (H3.out _)) | (go_at_call 46; with_reducible exact quiet_left (H2.out _)) | (go_at_call 46; with_reducible exact quiet_left (H4.out _)) | (go_at_call 46; with_reducible exact quiet_left (H5.out _))))
    go_wp2_with fail
    go_ret
    exact ⟨rfl, HKW.out.drewN _⟩
  · obtain ⟨g, off, rfl, hrd⟩ := HR0.out hkc
    have H2 := Lib.hid (HU.out _ hrd)
    clear HU HR0 HR1 HMR hrd
    have hkc' : ¬ c1 = k := fun e => hkc e.symm
    go_wp2_with fail
    go_quiet ((first | (go_at_call 44; with_reducible exact quiet_left (H1.out _)) | (go_at_call 44; with_reducible exact quiet_left (H3.out _)) | (go_at_call 46; with_reducible exact quiet_left (H2.out _)) | (go_at_call 46; with_reducible exact quiet_left (H4.out _)) | (go_at_call 46; with_reducible exact quiet_left (H5.out _))))
    go_wp2_with fail
    go_ret
    exact ⟨rfl, HKW.out.drewN _⟩
end Go.Proofs.YtnjmffmdlaobdabDoor
