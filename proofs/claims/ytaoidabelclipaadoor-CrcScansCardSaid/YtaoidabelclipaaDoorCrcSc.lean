/-
  arbaclaw04.CrcScans returns true.
-/
import Derived.Test.YtaoidabelclipaaDoorCrcD
import Derived.Test.YtaoidabelclipaaDoorCrcA
namespace Go.Proofs.YtaoidabelclipaaDoor
open Go.RowKit

theorem rb2 (w : World) (v0 v1 : Value) (x0 x1 : List Nat) (T : TypeId) (h0 : Reads w v0 x0) (h1 : Reads w v1 x1) :
    RB (w.alloc (.cells #[v0, v1] T)) w.heap.size 0 2 (fun i => [v0, v1].getD i (.bool false)) (fun i => [x0, x1].getD i []) := by
  have hk := Kept.alloc (fun _ => False) w (.cells #[v0, v1] T)
  refine ⟨by simp, fun i hi => ?_, fun i hi => ?_⟩
  · match i, hi with
    | 0, _ => go_simp
    | 1, _ => go_simp
  · match i, hi with
    | 0, _ => exact h0.kept hk (fun _ _ h => h)
    | 1, _ => exact h1.kept hk (fun _ _ h => h)

/-- The four cells of a damage. -/
structure Box4 (w : World) (g kd bt at' : Nat) (sl : Value) : Prop where
  c0 : w.cell? ⟨g, 0, none⟩ = some (.int .u8 kd)
  c1 : w.cell? ⟨g, 1, none⟩ = some (.int .u8 bt)
  c2 : w.cell? ⟨g, 2, none⟩ = some (.int .u16 at')
  c3 : w.cell? ⟨g, 3, none⟩ = some sl
theorem Box4.kept {a b : World} {g kd bt at' : Nat} {sl : Value} (h : Box4 a g kd bt at' sl) (hk : Kept (fun _ => False) a b) : Box4 b g kd bt at' sl := by
  have hg := World.block_lt_of_cell? a _ h.c0
  exact ⟨(hk.cell (p := ⟨g, 0, none⟩) hg (fun h => h)).trans h.c0, (hk.cell (p := ⟨g, 1, none⟩) hg (fun h => h)).trans h.c1, (hk.cell (p := ⟨g, 2, none⟩) hg (fun h => h)).trans h.c2, (hk.cell (p := ⟨g, 3, none⟩) hg (fun h => h)).trans h.c3⟩

/-- The two byte strings that are looked at. -/
structure TwoB (w wr : World) (g : Nat) (f : Nat → Value) (F : Nat → List Nat) : Prop where
  rb : RB wr g 0 2 f F
  byte : ∀ i, i < 2 → ∀ x ∈ F i, x < 256
  len : ∀ i, i < 2 → (F i).length ≤ 30000
  kept : Kept (fun _ => False) w wr

theorem map_getD (l : List Nat) (i : Nat) : (l.map fun n : Nat => (n : Int)).getD i 0 = (l.getD i 0 : Nat) := by
  simp only [List.getD_eq_getElem?_getD, List.getElem?_map]
  cases l[i]? <;> rfl
theorem sum_take_succ (l : List Nat) (i : Nat) (h : i < l.length) : (l.take (i + 1)).sum = (l.take i).sum + l.getD i 0 := by
  rw [List.take_succ_eq_append_getElem h, List.sum_append]; simp [List.getD, h]

set_option maxRecDepth 100000 in
set_option maxHeartbeats 6400000 in
theorem scans_any (v po : Value) (f : Nat → Value) (F : Nat → List Nat) (N kd bt at' : Nat) (ma : Option Addr) (mn mc : Nat) (ms os : List Nat) (w : World) (hT : Tab w) (hl : LB w v f F N w.heap.size) (hb : ∀ a n c, v = .slice a n c → c ≤ 9223372036854775807)
    (hm : Loose w (.slice ma mn mc) ms w.heap.size) (hmb : ∀ x ∈ ms, x < 256) (ho : InBytes w po os) (h1 : kd < 256) (h2 : bt < 256) (h3 : at' < 65536) :
    Calls Tryd.prog 9 #[v, .agg #[.int .u8 kd, .int .u8 bt, .int .u16 at', .slice ma mn mc], po] w fun e w' => e = .returned (.bool true) ∧ Kept (fun _ => False) w w' := by
  obtain ⟨ao, co, hpo⟩ := ho.reads.form
  obtain ⟨a0, c0, hv, _⟩ := hl.form
  have HFR := Lib.hid (fun (W : World) (hk : Kept (fun _ => False) w W) => frames_any v f F N w.heap.size W (hl.kept hk (Nat.le_refl _)) hk.size hb)
  have HQ := Lib.hid (fun (W : World) (hk : Kept (fun _ => False) w W) => few_any po os 500 W (ho.reads.kept hk (fun _ _ h => h)) (by omega))
  have HAP := Lib.hid (fun (W : World) (hk : Kept (fun _ => False) w W) (p : Value) (xs : List Nat) (hp : Reads W p xs) (hxb : ∀ x ∈ xs, x < 256) (hxl : xs.length ≤ 2464) => apply_any kd bt at' ma mn mc ms xs p w.heap.size W (hm.kept hk (fun _ _ h => h)) hmb hp hxb hxl h1 h2 h3)
  have hqb : ∀ x ∈ os.take 500, x < 256 := fun x hx => ho.byte x (List.mem_of_mem_take hx)
  have hql : (os.take 500).length ≤ 500 := by simp; omega
  have hbox : Box4 (w.alloc (.cells #[.int .u8 kd, .int .u8 bt, .int .u16 at', .slice ma mn mc] 66)) w.heap.size kd bt at' (.slice ma mn mc) := ⟨by go_simp, by go_simp, by go_simp, by go_simp⟩
  generalize os.take 500 = qs at HQ hqb hql
  have HQB := Lib.hid hqb; have HT := Lib.hid hT; have HBOX := Lib.hid hbox
  have hk1 := Kept.alloc (fun _ => False) w (.cells #[.int .u8 kd, .int .u8 bt, .int .u16 at', .slice ma mn mc] 66)
  have HK1 := Lib.hid hk1
  clear hT hl hb hm hmb ho hqb hbox hk1
  subst hpo hv
  go_enter Tryd.func9, Tryd.ntmps9
  go_wp2_with fail
  refine (awake4_any _ (HT.out.kept HK1.out (fun h => h))).mono ?_
  rintro e w0 ⟨rfl, hk0⟩
  have hbx0 := HBOX.out.kept hk0
  have b0 := hbx0.c0; have b1 := hbx0.c1; have b2 := hbx0.c2; have b3 := hbx0.c3
  have HBX := Lib.hid hbx0
  have HK0 := Lib.hid (HK1.out.then hk0)
  clear hbx0 hk0 HBOX HK1
  have HFR0 := Lib.hid (fun (W : World) (hk : Kept (fun _ => False) w0 W) => HFR.out W (HK0.out.then hk))
  have HQ0 := Lib.hid (fun (W : World) (hk : Kept (fun _ => False) w0 W) => HQ.out W (HK0.out.then hk))
  have HAP0 := Lib.hid (fun (W : World) (hk : Kept (fun _ => False) w0 W) => HAP.out W (HK0.out.then hk))
  clear HFR HQ HAP
  go_wp2_with fail
  go_region_held3 (fun w' => w'.cell? ⟨w.heap.size, 0, none⟩ = some (.int .u8 kd) ∧ w'.cell? ⟨w.heap.size, 1, none⟩ = some (.int .u8 bt) ∧ w'.cell? ⟨w.heap.size, 2, none⟩ = some (.int .u16 at') ∧ w'.cell? ⟨w.heap.size, 3, none⟩ = some (.slice ma mn mc))
    (first | go_keep)
    ((first | (go_at_call 40; refine (HFR0.out _ (by first | exact (Kept.refl (fun _ => False) w0).drew | exact KQ.out)).mono ?_; rintro e wf ⟨vf, zf, rfl, hff, hfb, hfl, hkf⟩; (first | (have KF : Hid (Kept (fun _ => False) w0 wf) := Lib.hid ((Kept.refl (fun _ => False) w0).drew.then hkf)) | (have KF : Hid (Kept (fun _ => False) w0 wf) := Lib.hid (KQ.out.then hkf))); have HKF := Lib.hid hkf; have RF := Lib.hid hff.reads; have BF := Lib.hid hfb; have LF := Lib.hid hfl; obtain ⟨fb0, fb1, fb2, fb3⟩ := HBX.out.kept KF.out; clear hff hfb hfl hkf) | (go_at_call 39; refine (HAP0.out _ (by first | exact KF.out | exact KQ.out) _ _ (by first | exact RF.out | exact RF.out.kept HKQ.out (fun _ _ h => h)) BF.out LF.out).mono ?_; rintro e wa ⟨va, za, rfl, hra, hba, hla, hka⟩; obtain ⟨aa, ca, hva⟩ := hra.form; subst hva; (first | (have KA : Hid (Kept (fun _ => False) w0 wa) := Lib.hid (KF.out.then hka)) | (have KA : Hid (Kept (fun _ => False) w0 wa) := Lib.hid (KQ.out.then hka))); have HKA := Lib.hid hka; have RA := Lib.hid hra; have BA := Lib.hid hba; have LA := Lib.hid hla; obtain ⟨ab0, ab1, ab2, ab3⟩ := HBX.out.kept KA.out; clear hra hba hla hka) | (go_at_call 33; refine (HQ0.out _ (by first | exact (Kept.refl (fun _ => False) w0).drew | exact KF.out | exact KA.out)).mono ?_; rintro e wq ⟨vq, rfl, hfq, hkq⟩; obtain ⟨aq, cq, hvq⟩ := hfq.reads.form; subst hvq; (first | (have KQ : Hid (Kept (fun _ => False) w0 wq) := Lib.hid ((Kept.refl (fun _ => False) w0).drew.then hkq)) | (have KQ : Hid (Kept (fun _ => False) w0 wq) := Lib.hid (KF.out.then hkq)) | (have KQ : Hid (Kept (fun _ => False) w0 wq) := Lib.hid (KA.out.then hkq))); have HKQ := Lib.hid hkq; have RQ := Lib.hid hfq.reads; obtain ⟨qb0, qb1, qb2, qb3⟩ := HBX.out.kept KQ.out; clear hfq hkq)))
  obtain ⟨ff, FF, htw⟩ : ∃ ff FF, TwoB w (wq.alloc (.cells #[.slice aa za.length ca, .slice aq qs.length cq] 22)) wq.heap.size ff FF := by
    refine ⟨_, _, rb2 wq _ _ za qs _ (RA.out.kept HKQ.out (fun _ _ h => h)) RQ.out, fun i hi => ?_, fun i hi => ?_, (HK0.out.then KQ.out).then (Kept.alloc _ _ _)⟩
    · match i, hi with
      | 0, _ => exact BA.out
      | 1, _ => exact HQB.out
    · match i, hi with
      | 0, _ => exact LA.out
      | 1, _ => exact Nat.le_trans hql (by omega)
  have HTW := Lib.hid htw
  go_wp2_with fail
  clear htw
  generalize wq.alloc (.cells #[.slice aa za.length ca, .slice aq qs.length cq] 22) = wE at HTW ⊢
  generalize wq.heap.size = gE at HTW ⊢
  clear b0 b1 b2 b3 fb0 fb1 fb2 fb3 ab0 ab1 ab2 ab3 qb0 qb1 qb2 qb3
  go_loopw [28] (fun jv wr => ∃ j : Nat, j ≤ 2 ∧ jv = .int .i64 j ∧ Hid (TwoB w wr gE ff FF)) (fun jv _ => 2 - (intOf jv).toNat)
  case atStart => exact ⟨0, by omega, rfl, HTW⟩
  case round =>
    obtain ⟨j, hj, rfl, hinv⟩ := hrel
    clear HTW KF KA KQ HKF HKA HKQ RF RA RQ BF BA LF LA HFR0 HQ0 HAP0 HBX HK0 hql HQB
    by_cases hlt : j < 2
    · have hl1 : (j : Int) < 2 := by omega
      have hl0 : (0 : Int) ≤ (j : Int) := by omega
      have hcell := hinv.out.rb.cell j hlt
      rw [Nat.zero_add] at hcell
      have hread := hinv.out.rb.reads j hlt
      have hbb := hinv.out.byte j hlt
      have hbl := hinv.out.len j hlt
      generalize FF j = xs at hread hbb hbl
      generalize ff j = bv at hcell hread
      obtain ⟨ab, cb, hbf⟩ := hread.form
      have hbcap : xs.length ≤ cb := by
        have h := hread
        rw [hbf] at h
        exact (h.behind (Nat.zero_le _)).2.2
      have hbm : cb ≤ maxLen := by
        rcases hread with ⟨h, h2⟩ | ⟨g, off, cap, h, _, h3, _⟩
        · rw [hbf] at h; injection h with _ _ e; subst e; simp
        · rw [hbf] at h; injection h with _ _ e; omega
      unfold maxLen at hbm
      obtain ⟨pl1, pl2, pl3⟩ := pays_lens xs.length xs (Nat.le_refl _)
      have HREAD := Lib.hid hread; have HBB := Lib.hid hbb; have HPL := Lib.hid pl3; have PL1 := Lib.hid pl1; have PL2 := Lib.hid pl2
      have HTAB := Lib.hid (HT.out.kept hinv.out.kept (fun h => h))
      clear hread hbb pl1 pl2 pl3
      subst hbf
      go_wp2_with fail
      refine (scan_any _ xs _ HREAD.out HBB.out HTAB.out (by omega)).mono ?_
      rintro e w1 ⟨gv, gs, rfl, hpays, hk1⟩
      obtain ⟨ag, cg, hgf⟩ := hpays.form
      obtain ⟨L, hL⟩ : ∃ L, L = (lens xs).length := ⟨_, rfl⟩
      rw [PL1.out, ← hL] at hgf
      have HL := Lib.hid hL; have HPAYS := Lib.hid hpays; have HK1 := Lib.hid hk1
      have hL30 : L ≤ 30000 := by
        have h8 : ∀ (l : List Nat), (∀ i, i < l.length → 8 ≤ l.getD i 0) → l.length * 8 ≤ l.sum := fun l => by
          induction l with
          | nil => intro _; simp
          | cons a l ih =>
            intro h
            have h0 := h 0 (by simp)
            have := ih (fun i hi => by have := h (i + 1) (by simpa using hi); simpa using this)
            simp at h0 ⊢
            omega
        have := h8 (lens xs) (fun i hi => (HPL.out i hi).1)
        have := PL2.out
        omega
      clear hL hpays hk1
      subst hgf
      have hR1 := Lib.hid (HREAD.out.kept HK1.out (fun _ _ h => h))
      have hG : ((lens xs).sum) ≤ 30000 := by have := PL2.out; omega
      generalize hgood : (lens xs).sum = good at *
      have HGOOD := Lib.hid hgood; clear hgood
      go_wp2_with fail
      refine (rscan_any _ xs w1 hR1.out HBB.out (by omega)).mono ?_
      rintro e w2 ⟨wv, rfl, hwant, hk2⟩
      obtain ⟨aw, cw, hwf⟩ := hwant.form
      rw [List.length_map, ← HL.out] at hwf
      have HW := Lib.hid hwant; have HK2 := Lib.hid (HK1.out.then hk2)
      have HP2 := Lib.hid (HPAYS.out.kept hk2)
      have HR2 := Lib.hid (hR1.out.kept hk2 (fun _ _ h => h))
      clear hwant hk2 HPAYS hR1
      subst hwf
      go_wp2_with fail
      go_loopw [12, 46] (fun av iv wr2 => ∃ i : Nat, i ≤ L ∧ iv = .int .i64 i ∧ av = .int .i64 (((lens xs).take i).sum : Nat) ∧ Hid (Kept (fun _ => False) w2 wr2)) (fun _ iv _ => L - (intOf iv).toNat)
      case atStart => exact ⟨0, by omega, rfl, rfl, Lib.hid (Kept.refl _ _)⟩
      case round =>
        obtain ⟨i, hi, rfl, rfl, hkk⟩ := hrel
        by_cases hlt2 : i < L
        · have hm1 : (i : Int) < (L : Int) := by omega
          have hm0 : (0 : Int) ≤ (i : Int) := by omega
          obtain ⟨q1, q2, q3⟩ := HPL.out i (by rw [← HL.out]; exact hlt2)
          have hst := sum_take_succ (lens xs) i (by rw [← HL.out]; exact hlt2)
          have HW2 := HW.out.kept hkk.out (fun _ _ h => h)
          obtain ⟨gw, ow, haw, hgw, hwc⟩ := HW2.at (i := i) (by rw [List.length_map, ← HL.out]; exact hlt2)
          rw [map_getD] at hwc
          obtain ⟨gg, og, hag, hgg, hgc, hgr⟩ := (HP2.out.kept hkk.out).at (i := i) (by rw [PL1.out, ← HL.out]; exact hlt2)
          rw [q3] at hgr
          have hbr := HR2.out.kept hkk.out (fun _ _ h => h)
          generalize ((lens xs).take i).sum = A at *
          generalize (lens xs).getD i 0 = n at *
          generalize gs.getD i (.bool false) = gi at hgc hgr
          obtain ⟨A8, hA8⟩ : ∃ z, z = A + 8 := ⟨_, rfl⟩
          obtain ⟨E, hE⟩ : ∃ z, z = A + n := ⟨_, rfl⟩
          have e8 : IntKind.i64.wrap ((A : Int) + 8) = (A8 : Int) := by rw [IntWalk.i64_in _ (by omega)]; omega
          have eE : IntKind.i64.wrap ((A : Int) + (n : Int)) = (E : Int) := by rw [IntWalk.i64_in _ (by omega)]; omega
          have f1 : (A8 : Int) ≤ E := by omega
          have f0 : (0 : Int) ≤ (A8 : Int) := by omega
          have f2 : (E : Int) ≤ cb := by omega
          have f3 : E - A8 = n - 8 := by omega
          have f4 : A8 ≤ xs.length := by omega
          have f5 : E ≤ xs.length := by omega
          have f6 : A8 ≤ E := by omega
          rw [← hA8] at hgr
          rw [← hE] at hst
          have HEE : Hid ((A + n : Nat) = E) := Lib.hid hE.symm
          have HST := Lib.hid (hst.trans hE)
          obtain ⟨hb1, hb2, _⟩ := hbr.behind f4
          have hpl : ((xs.drop A8).take (n - 8)).length = n - 8 := by simp; omega
          have HF3 := Lib.hid f3
          have HGR := Lib.hid hgr
          have q1' := q1
          clear q1 q3 hst HW2 hbr hA8 hE f3 hpl
          clear HGR
          by_cases hcc : A8 = cb
          · obtain ⟨g1, g2⟩ := hb1 hcc
            have hd0 : xs.drop A8 = [] := List.drop_of_length_le (by omega)
            have hpy : (xs.drop A8).take (n - 8) = xs.drop A8 := by rw [hd0]; simp
            rw [hpy] at hgr
            have HGR := Lib.hid hgr; have HSR := Lib.hid g2
            generalize xs.drop A8 = py at HGR HSR
            clear hb1 hb2 hgr g2 hd0 hpy
            have HG1 := Lib.hid g1
            obtain rfl : E = A8 := by omega
            subst hcc
            subst haw hag
            clear g1
            go_wp2_with fail
            go_region_held3 (fun w' => w'.cell? ⟨gg, og + i, none⟩ = some gi)
              (first | go_keep)
              ((first | (go_at_call 36; refine (equalb_any _ _ _ py py (reads_drew HGR.out) (reads_drew HSR.out)).mono ?_; rw [show decide (py = py) = true by simp]; rintro e w8 ⟨rfl, hk8⟩; have b8 : w8.cell? ⟨gg, og + i, none⟩ = some gi := (hk8.cell (p := ⟨gg, og + i, none⟩) hgg (fun h => h)).trans (by exact hgc); have HK8 : Hid (Kept (fun _ => False) w2 w8) := Lib.hid (hkk.out.then ((Kept.refl _ _).drew.then hk8)); clear hk8)))
            clear e8 eE
            go_wp2_with fail
            go_roundw
            case rel => exact ⟨i + 1, by omega, by go_num, by rw [HST.out]; go_num, HK8⟩
            case measure => simp [intOf]; omega
          · obtain ⟨g, off, rfl, g2⟩ := hb2 hcc
            have hld : (xs.drop A8).length = xs.length - A8 := by simp
            rw [← hld] at g2
            have g3 := g2.takeV (n - 8) (by have := HF3.out; rw [hld]; omega)
            rw [← HF3.out] at g3 hgr
            have HGR := Lib.hid hgr; have HSR := Lib.hid g3
            generalize (xs.drop A8).take (E - A8) = py at HGR HSR
            have hcc' : ¬ cb = A8 := fun e => hcc e.symm
            clear hb1 hb2 hgr g2 g3 hld
            subst haw hag
            go_wp2_with fail
            go_region_held3 (fun w' => w'.cell? ⟨gg, og + i, none⟩ = some gi)
              (first | go_keep)
              ((first | (go_at_call 36; refine (equalb_any _ _ _ py py (reads_drew HGR.out) (reads_drew HSR.out)).mono ?_; rw [show decide (py = py) = true by simp]; rintro e w8 ⟨rfl, hk8⟩; have b8 : w8.cell? ⟨gg, og + i, none⟩ = some gi := (hk8.cell (p := ⟨gg, og + i, none⟩) hgg (fun h => h)).trans (by exact hgc); have HK8 : Hid (Kept (fun _ => False) w2 w8) := Lib.hid (hkk.out.then ((Kept.refl _ _).drew.then hk8)); clear hk8)))
            clear e8 eE
            go_wp2_with fail
            go_roundw
            case rel => exact ⟨i + 1, by omega, by go_num, by rw [HST.out]; go_num, HK8⟩
            case measure => simp [intOf]; omega
        · obtain rfl : i = L := by omega
          rw [show (lens xs).take i = lens xs by rw [HL.out, List.take_length], HGOOD.out]
          have hnx := next_any (.slice ab xs.length cb) xs wr (HR2.out.kept hkk.out (fun _ _ h => h)) HBB.out (HT.out.kept (hinv.out.kept.then (HK2.out.then hkk.out)) (fun h => h))
          have hW2 := HW.out.kept hkk.out (fun _ _ h => h)
          have hP2 := HP2.out.kept hkk.out
          have HNX := Lib.hid hnx; have HW2 := Lib.hid hW2; have HPP := Lib.hid hP2
          have hrb2 := hinv.out
          have HK3 := Lib.hid (HK2.out.then hkk.out)
          clear hnx hW2 hP2 hrb2
          go_wp2_with fail
          refine HNX.out.mono ?_
          rintro e w3 (⟨hn0, rfl, hk3⟩ | ⟨hn1, v3, rfl, hf3, hk3⟩)
          · have hi0 : i = 0 := by rw [HL.out, lens_none hn0]; rfl
            have HTW3 : Hid (TwoB w w3 gE ff FF) := ⟨hinv.out.rb.kept (HK3.out.then hk3), hinv.out.byte, hinv.out.len, hinv.out.kept.then (HK3.out.then hk3)⟩
            clear hn0 hk3
            subst hi0
            go_wp2_with fail
            go_roundw
            case rel => exact ⟨j + 1, by omega, by go_num, HTW3⟩
            case measure => simp [intOf]; omega
          · have hlc := lens_some hn1
            have hpc := pays_some hn1
            have hi0 : 0 < i := by rw [HL.out, hlc]; simp
            obtain ⟨gw, ow, haw, hgw, hwc⟩ := (HW2.out.kept hk3 (fun _ _ h => h)).at (i := 0) (by rw [List.length_map, ← HL.out]; exact hi0)
            rw [map_getD, hlc, Nat.add_zero] at hwc
            rw [List.getD_cons_zero] at hwc
            obtain ⟨gg, og, hag, hgg, hgc, hgr⟩ := (HPP.out.kept hk3).at (i := 0) (by rw [PL1.out, ← HL.out]; exact hi0)
            rw [hpc, List.getD_cons_zero] at hgr
            rw [Nat.add_zero] at hgc
            have HTW3 : Hid (TwoB w w3 gE ff FF) := ⟨hinv.out.rb.kept (HK3.out.then hk3), hinv.out.byte, hinv.out.len, hinv.out.kept.then (HK3.out.then hk3)⟩
            have hi1 : (0 : Int) < (i : Int) := by omega
            have HGR := Lib.hid hgr; have HF3 := Lib.hid hf3.reads
            generalize (xs.drop 8).take (de4 xs) = py at HGR HF3
            generalize nextS xs = nx at hwc ⊢
            generalize gs.getD 0 (.bool false) = gi at hgc HGR
            clear hn1 hk3 hf3 hlc hpc hgr
            subst haw hag
            have hb1 : ((i : Int) == 0) = false := by simp; omega
            go_wp2_with fail
            refine (equalb_any w3 _ _ py py HF3.out HGR.out).mono ?_
            rw [show decide (py = py) = true by simp]
            rintro e w4 ⟨rfl, hk4⟩
            have HTW4 : Hid (TwoB w w4 gE ff FF) := ⟨HTW3.out.rb.kept hk4, HTW3.out.byte, HTW3.out.len, HTW3.out.kept.then hk4⟩
            clear hk4
            go_wp2_with fail
            go_roundw
            case rel => exact ⟨j + 1, by omega, by go_num, HTW4⟩
            case measure => simp [intOf]; omega
    · obtain rfl : j = 2 := by omega
      go_wp2_with fail
      go_ret
      exact ⟨rfl, hinv.out.kept⟩
end Go.Proofs.YtaoidabelclipaaDoor
