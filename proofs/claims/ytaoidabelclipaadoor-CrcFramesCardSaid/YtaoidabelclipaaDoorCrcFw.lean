/-
  arbaclaw04.CrcFrames returns true.
-/
import Derived.Test.YtaoidabelclipaaDoorCrcFr
import Derived.Test.YtaoidabelclipaaDoorCrcT
namespace Go.Proofs.YtaoidabelclipaaDoor
open Go.RowKit

set_option maxRecDepth 100000 in
set_option maxHeartbeats 3200000 in
theorem frames_short (p m : Value) (xs ms : List Nat) (w : World) (hT : Tab w) (hp : InBytes w p xs) (hm : InBytes w m ms) :
    Calls Tryd.prog 8 #[p, m, .bool false] w fun e w' => e = .returned (.bool true) ∧ Kept (fun _ => False) w w' := by
  have bx : ∀ x ∈ xs.take 4000, x < 256 := fun x hx => hp.byte x (List.mem_of_mem_take hx)
  have bm : ∀ x ∈ ms.take 100, x < 256 := fun x hx => hm.byte x (List.mem_of_mem_take hx)
  have lx : (xs.take 4000).length ≤ 4000 := by simp; omega
  have lm : (ms.take 100).length ≤ 100 := by simp; omega
  obtain ⟨a, cp, hpf⟩ := hp.reads.form
  obtain ⟨am, cm, hmf⟩ := hm.reads.form
  have FX := Lib.hid (fun (W : World) (hk : Kept (fun _ => False) w W) => few_any p xs 4000 W (hp.reads.kept hk (fun _ _ h => h)) (by omega))
  have FM := Lib.hid (fun (W : World) (hk : Kept (fun _ => False) w W) => few_any m ms 100 W (hm.reads.kept hk (fun _ _ h => h)) (by omega))
  have HT := Lib.hid hT
  generalize xs.take 4000 = us at FX bx lx
  generalize ms.take 100 = vs at FM bm lm
  have BX := Lib.hid bx; have BM := Lib.hid bm
  clear hp hm hT bx bm
  subst hpf hmf
  go_enter Tryd.func8, Tryd.ntmps8
  go_wp2_with fail
  refine (awake4_any w HT.out).mono ?_
  rintro e w0 ⟨rfl, hk0⟩
  go_wp2_with fail
  refine (FX.out w0 hk0).mono ?_
  rintro e w1 ⟨p1, rfl, hf1, hk1⟩
  have hk01 := hk0.then hk1
  obtain ⟨a1, c1, hv1⟩ := hf1.reads.form
  have HF1 := Lib.hid hf1
  clear hf1
  subst hv1
  go_wp2_with fail
  refine (FM.out w1 hk01).mono ?_
  rintro e w2 ⟨m1, rfl, hf2, hk2⟩
  have hk02 := hk01.then hk2
  obtain ⟨a2, c2, hv2⟩ := hf2.reads.form
  have HF2 := Lib.hid hf2.reads
  have HP2 := Lib.hid (HF1.out.reads.kept hk2 (fun _ _ h => h))
  clear hf2
  subst hv2
  go_wp2_with fail
  refine (frame_any _ us w2 HP2.out BX.out (by omega) (HT.out.kept hk02 (fun h => h))).mono ?_
  rintro e w3 ⟨v3, rfl, hf3, hk3⟩
  have hk03 := hk02.then hk3
  have hfl := frameS_length us
  obtain ⟨fs, hfs⟩ : ∃ fs, fs = frameS us := ⟨_, rfl⟩
  rw [← hfs] at hf3 hfl
  have HFS := Lib.hid hfs
  have hfb : ∀ x ∈ fs, x < 256 := by rw [hfs]; exact frameS_byte BX.out
  obtain ⟨a3, c3, hv3⟩ := hf3.reads.form
  have HF3 := Lib.hid hf3.reads
  have HP3 := Lib.hid (HP2.out.kept hk3 (fun _ _ h => h))
  have HM3 := Lib.hid (HF2.out.kept hk3 (fun _ _ h => h))
  have HFB := Lib.hid hfb; have HFL := Lib.hid hfl
  have hfl9 : fs.length ≤ 4008 := by omega
  clear hf3 hfs hfl hfb HF2 HP2 HF1
  subst hv3
  go_wp2_with fail
  refine (rframe_any _ us w3 HP3.out BX.out (by omega)).mono ?_
  rintro e w4 ⟨v4, rfl, hf4, hk4⟩
  rw [← HFS.out] at hf4
  have HF4 := Lib.hid hf4.reads
  have HF34 := Lib.hid (HF3.out.kept hk4 (fun _ _ h => h))
  clear hf4
  go_wp2_with fail
  refine (equalb_any w4 _ _ fs fs HF34.out HF4.out).mono ?_
  rw [show decide (fs = fs) = true by simp]
  rintro e w5 ⟨rfl, hk5⟩
  have hk35 := hk4.then hk5
  have HF5 := Lib.hid (HF3.out.kept hk35 (fun _ _ h => h))
  have hk05 := hk03.then hk35
  clear HF4 HF34
  go_wp2_with fail
  refine (bclone_any _ fs w5 HF5.out (by omega)).mono ?_
  rintro e w6 ⟨v6, rfl, hf6, hk6⟩
  have hk36 := hk35.then hk6
  have hk06 := hk05.then hk6
  obtain ⟨a7, c7, w7, r7, f7, k7⟩ := append_reads_run hf6 (HM3.out.kept hk36 (fun _ _ h => h)) (by omega) hk6.size
  have hk57 : Kept (fun _ => False) w5 w7 := hk6.trans k7 (fun _ _ h => h) (fun i hi e => by have := hf6.block i e; omega)
  have hn := nextS_frame BX.out (by omega) vs
  obtain ⟨d1, d2⟩ := frame_head (p := us) (by omega) vs
  rw [← HFS.out] at hn d1 d2
  have hnb : ∀ x ∈ fs ++ vs, x < 256 := fun x hx => (List.mem_append.1 hx).elim (HFB.out x) (BM.out x)
  obtain ⟨ys, hys⟩ : ∃ ys, ys = fs ++ vs := ⟨_, rfl⟩
  rw [← hys] at r7 f7 hn d1 d2 hnb
  obtain ⟨a6, c6, hv6⟩ := hf6.reads.form
  have hk07 := hk05.then hk57
  have HF7 := Lib.hid f7.reads; have R7 := Lib.hid r7; have HNB := Lib.hid hnb; have HN := Lib.hid hn; have D1 := Lib.hid d1; have D2 := Lib.hid d2
  have HP7 := Lib.hid (HP3.out.kept (hk35.then hk57) (fun _ _ h => h))
  clear hf6 f7 r7 hnb hn d1 d2 hys k7 hk6 hk36
  subst hv6
  go_wp2_with (at_builtin; refine wpList_append_run (by rfl) _ _ _ _ rfl _ _ rfl rfl R7.out ?_)
  refine (next_any _ ys w7 HF7.out HNB.out (HT.out.kept hk07 (fun h => h))).mono ?_
  rintro e w8 (⟨hn0, _⟩ | ⟨hn1, v8, rfl, hf8, hk8⟩)
  · rw [HN.out] at hn0; omega
  · rw [HN.out, ← HFL.out]
    rw [D1.out, D2.out] at hf8
    have HF8 := Lib.hid hf8.reads
    have HP8 := Lib.hid (HP7.out.kept hk8 (fun _ _ h => h))
    clear hn1 hf8
    go_wp2_with fail
    refine (equalb_any w8 _ _ us us HP8.out HF8.out).mono ?_
    rw [show decide (us = us) = true by simp]
    rintro e w9 ⟨rfl, hk9⟩
    go_wp2_with fail
    go_ret
    exact ⟨rfl, hk07.then (hk8.then hk9)⟩

set_option maxRecDepth 100000 in
set_option maxHeartbeats 3200000 in
theorem frames_long (p m : Value) (xs ms : List Nat) (w : World) (hT : Tab w) (hp : InBytes w p xs) (hm : InBytes w m ms) :
    Calls Tryd.prog 8 #[p, m, .bool true] w fun e w' => e = .returned (.bool true) ∧ Kept (fun _ => False) w w' := by
  have bx : ∀ x ∈ xs.take 4000, x < 256 := fun x hx => hp.byte x (List.mem_of_mem_take hx)
  have lx : (xs.take 4000).length ≤ 4000 := by simp; omega
  obtain ⟨a, cp, hpf⟩ := hp.reads.form
  obtain ⟨am, cm, hmf⟩ := hm.reads.form
  have FX := Lib.hid (fun (W : World) (hk : Kept (fun _ => False) w W) => few_any p xs 4000 W (hp.reads.kept hk (fun _ _ h => h)) (by omega))
  have FM := Lib.hid (fun (W : World) (hk : Kept (fun _ => False) w W) => few_any m ms 100 W (hm.reads.kept hk (fun _ _ h => h)) (by omega))
  have HT := Lib.hid hT
  generalize xs.take 4000 = us at FX bx lx
  have BX := Lib.hid bx
  clear hp hm hT bx
  subst hpf hmf
  go_enter Tryd.func8, Tryd.ntmps8
  go_wp2_with fail
  refine (awake4_any w HT.out).mono ?_
  rintro e w0 ⟨rfl, hk0⟩
  go_wp2_with fail
  refine (FX.out w0 hk0).mono ?_
  rintro e w1 ⟨p1, rfl, hf1, hk1⟩
  have hk01 := hk0.then hk1
  obtain ⟨a1, c1, hv1⟩ := hf1.reads.form
  have HF1 := Lib.hid hf1
  clear hf1
  subst hv1
  go_wp2_with fail
  refine (FM.out w1 hk01).mono ?_
  rintro e w2 ⟨m1, rfl, hf2, hk2⟩
  have hk02 := hk01.then hk2
  have hw1 : w.heap.size ≤ w1.heap.size := hk01.size
  have hw0 : w.heap.size ≤ w0.heap.size := hk0.size
  have hP2 : Fresh w2 w.heap.size (.slice a1 us.length c1) us := ⟨hk2.owns (own_base HF1.out.own hw0) (fun _ _ h => h), fun j hj => Nat.le_trans hw0 (HF1.out.block j hj)⟩
  obtain ⟨a3, c3, w3, r3, f3, k3⟩ := append_zeros_run hP2 (9001 - us.length) (by omega) (by omega) hk02.size
  rw [show ((9001 - us.length : Nat) : Int) = 9000 - (us.length : Int) + 1 by omega] at r3
  have hk03 : Kept (fun _ => False) w w3 := hk02.trans k3 (fun _ _ h => h) (fun i hi e => by have := hP2.block i e; omega)
  have hzl : (us ++ List.replicate (9001 - us.length) 0).length = 9001 := by simp; omega
  have hzb : ∀ x ∈ us ++ List.replicate (9001 - us.length) 0, x < 256 := fun x hx => (List.mem_append.1 hx).elim (BX.out x) (fun h => by have := List.eq_of_mem_replicate h; omega)
  generalize us ++ List.replicate (9001 - us.length) 0 = zs at r3 f3 hzl hzb
  have hrd := f3.reads
  have hbe := (hrd.behind (Nat.zero_le _)).2.2
  have htk := hrd.takeV 9000 (by omega)
  have htb : ∀ x ∈ zs.take 9000, x < 256 := fun x hx => hzb x (List.mem_of_mem_take hx)
  have htl : (zs.take 9000).length = 9000 := by simp; omega
  have HLONG := Lib.hid (frame_long _ zs w3 hrd (by omega))
  generalize zs.take 9000 = ys at htk htb htl
  rw [hzl] at r3 hbe HLONG
  have R3 := Lib.hid r3; have HTK := Lib.hid htk; have HTB := Lib.hid htb; have HTL := Lib.hid htl
  have n1 : (9000 : Int) ≤ c3 := by omega
  have n2 : 9000 ≤ c3 := by omega
  clear r3 f3 k3 hrd htk htb htl hzl hzb hP2 hf2 HF1
  go_wp2_with (at_builtin; refine wpList_append_run (by rfl) _ _ _ _ rfl _ _ rfl rfl R3.out ?_)
  refine HLONG.out.mono ?_
  rintro e w4 ⟨rfl, rfl⟩
  go_wp2_with fail
  refine (frame_any _ ys w3 HTK.out HTB.out (by rw [HTL.out]; omega) (HT.out.kept hk03 (fun h => h))).mono ?_
  rintro e w4 ⟨v4, rfl, hf4, hk4⟩
  have hn := nextS_frame HTB.out (by rw [HTL.out]; omega) []
  obtain ⟨d1, d2⟩ := frame_head (p := ys) (by rw [HTL.out]; omega) []
  have hfl := frameS_length ys
  have hfb := frameS_byte HTB.out
  rw [List.append_nil] at hn d1 d2
  obtain ⟨fs, hfs⟩ : ∃ fs, fs = frameS ys := ⟨_, rfl⟩
  rw [← hfs] at hf4 hn d1 d2 hfl hfb
  rw [HTL.out] at hn hfl
  obtain ⟨a4, c4, hv4⟩ := hf4.reads.form
  have HF4 := Lib.hid hf4.reads; have HFS := Lib.hid hfs; have HN := Lib.hid hn; have D1 := Lib.hid d1; have D2 := Lib.hid d2; have HFL := Lib.hid hfl; have HFB := Lib.hid hfb
  have HTK4 := Lib.hid (HTK.out.kept hk4 (fun _ _ h => h))
  have hk04 := hk03.then hk4
  clear hf4 hn d1 d2 hfl hfb hfs
  subst hv4
  go_wp2_with fail
  refine (next_any _ fs w4 HF4.out HFB.out (HT.out.kept hk04 (fun h => h))).mono ?_
  rintro e w5 (⟨hn0, _⟩ | ⟨hn1, v5, rfl, hf5, hk5⟩)
  · rw [HN.out] at hn0; omega
  · rw [HN.out]
    rw [D1.out, D2.out] at hf5
    have HF5 := Lib.hid hf5.reads
    have HTK5 := Lib.hid (HTK4.out.kept hk5 (fun _ _ h => h))
    have HF45 := Lib.hid (HF4.out.kept hk5 (fun _ _ h => h))
    have hk05 := hk04.then hk5
    have hflI : (fs.length : Int) = 9008 := by rw [HFL.out]; rfl
    clear hn1 hf5
    go_wp2_with fail
    refine (rframe_any _ ys w5 HTK5.out HTB.out (by rw [HTL.out]; omega)).mono ?_
    rintro e w6 ⟨v6, rfl, hf6, hk6⟩
    rw [← HFS.out] at hf6
    have HF6 := Lib.hid hf6.reads
    have HF46 := Lib.hid (HF45.out.kept hk6 (fun _ _ h => h))
    clear hf6
    go_wp2_with fail
    refine (equalb_any w6 _ _ fs fs HF46.out HF6.out).mono ?_
    rw [show decide (fs = fs) = true by simp]
    rintro e w7 ⟨rfl, hk7⟩
    have hk57 := hk6.then hk7
    have HF57 := Lib.hid (HF5.out.kept hk57 (fun _ _ h => h))
    have HTK7 := Lib.hid (HTK5.out.kept hk57 (fun _ _ h => h))
    clear HF6 HF46
    go_wp2_with fail
    refine (equalb_any w7 _ _ ys ys HF57.out HTK7.out).mono ?_
    rw [show decide (ys = ys) = true by simp]
    rintro e w8 ⟨rfl, hk8⟩
    go_wp2_with fail
    go_ret
    exact ⟨rfl, hk05.then (hk57.then hk8)⟩

theorem crcframes_any (p m : Value) (xs ms : List Nat) (b : Bool) (w : World) (hT : Tab w) (hp : InBytes w p xs) (hm : InBytes w m ms) :
    Calls Tryd.prog 8 #[p, m, .bool b] w fun e w' => e = .returned (.bool true) ∧ Kept (fun _ => False) w w' := by
  cases b
  · exact frames_short p m xs ms w hT hp hm
  · exact frames_long p m xs ms w hT hp hm
end Go.Proofs.YtaoidabelclipaaDoor
