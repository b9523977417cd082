/-
  arbaclaw02.WireBack returns true for every list of values and every byte; nothing that was there is changed.
-/
import Derived.Test.YtknphfednknajabAwake
import Derived.Test.YtknphfednknajabValIn
import Derived.Test.YtknphfednknajabBackA
namespace Go.Proofs.Ytknphfednknajab
open Go.RowKit

/-- A value, as numbers. -/
structure Rec where
  k : Nat
  U : Nat
  S : Int
  a : Option Addr
  n : Nat
  c : Nat
  bs : List Nat

/-- Its encoding. -/
def Rec.enc (r : Rec) : List Nat := encV (r.k % 7) r.U r.S (r.bs.take 300)
def Rec.At (w : World) (g o B : Nat) (r : Rec) : Prop := ValAt w g o r.k r.U r.S r.a r.n r.c r.bs B

/-- The encodings of m values from number i on. -/
def tot (f : Nat → Rec) : Nat → Nat → List Nat
  | _, 0 => []
  | i, m + 1 => (f i).enc ++ tot f (i + 1) m

theorem tot_step (f : Nat → Rec) {N k : Nat} (h : k < N) : tot f k (N - k) = (f k).enc ++ tot f (k + 1) (N - (k + 1)) := by
  rw [show N - k = (N - (k + 1)) + 1 by omega]; rfl

theorem tot_end (f : Nat → Rec) (N : Nat) : tot f N (N - N) = [] := by rw [Nat.sub_self]; rfl

/-- What the first loop keeps. -/
def BInv (w wr : World) (wb : Nat) (f : Nat → Rec) (N k : Nat) : Prop :=
  ∃ u ys, Wr wr wb u w.heap.size ys ∧ tot f 0 N = ys ++ tot f k (N - k) ∧ ys.length ≤ 1000 * k ∧ (∀ b ∈ ys, b < 256) ∧ Kept (fun _ => False) w wr

/-- What the second loop keeps. -/
def RInv (w wr : World) (B rb sb mo : Nat) (f : Nat → Rec) (N k : Nat) : Prop :=
  ∃ rv sv, Rd wr rb rv (tot f k (N - k)) 0 ∧ Rd wr sb sv (tot f k (N - k) ++ [mo]) 0 ∧ rb ≠ sb ∧ sv.ownBlock ≠ some rb ∧ rv.ownBlock ≠ some sb ∧ B ≤ rb ∧ B ≤ sb ∧ (∀ b ∈ tot f k (N - k) ++ [mo], b < 256) ∧ Kept (fun _ => False) w wr

set_option maxRecDepth 100000 in
set_option maxHeartbeats 6400000 in
theorem backl_at (x : Addr) (cap N mo : Nat) (f : Nat → Rec) (w : World) (hcap : N ≤ cap) (hcm : cap ≤ 9223372036854775807) (hmo : mo < 256) (hv : Hid (∀ i, i < N → x.spot = none ∧ (f i).At w x.block (x.off + i * 4) w.heap.size)) :
    Calls Try.prog 5 #[.slice (some x) N cap, .int .u8 mo] w fun e w' => e = .returned (.bool true) ∧ Below w.heap.size w w' := by
  obtain ⟨i0, hi, hz0, hz1, hz2⟩ := info_parts info_u8
  obtain ⟨K, hK⟩ : ∃ K, K = min N 20 := ⟨_, rfl⟩
  have hmin : min (N : Int) 20 = (K : Int) := by omega
  have hK0 : (0 : Int) ≤ (K : Int) := by omega
  have hK1 : (K : Int) ≤ (N : Int) := by omega
  have hK2 : (K : Int) ≤ (cap : Int) := by omega
  have hK3 : K ≤ cap := by omega
  have hK4 : K ≤ N := by omega
  have hK5 : K ≤ 20 := by omega
  have HKE := Lib.hid hK; clear hK
  go_enter Try.func5, Try.ntmps5
  go_wp2_with fail
  refine (awake_any w).mono ?_
  rintro e w0 ⟨rfl, hk0⟩
  go_wp2_with fail
  refine (newWriter_any w0).mono ?_
  rintro e w1 ⟨rfl, hw1⟩
  have hk1 : Kept (fun _ => False) w0 w1 := by rw [hw1]; exact Kept.alloc _ _ _
  have hwr1 : Wr w1 w0.heap.size (.slice none 0 0) w.heap.size [] := by rw [hw1]; exact wr_new w0 w.heap.size hk0.size
  have HI : Hid (BInv w w1 w0.heap.size f K 0) := ⟨_, [], hwr1, by simp, by simp, by simp, hk0.then hk1⟩
  have hwb : w.heap.size ≤ w0.heap.size := hk0.size
  clear hk0 hk1 hwr1 hw1
  go_wp2_with fail
  go_loopw [22] (fun iv wr => ∃ k : Nat, k ≤ K ∧ iv = .int .i64 k ∧ Hid (BInv w wr w0.heap.size f K k)) (fun iv _ => K - (intOf iv).toNat)
  case atStart => exact ⟨0, by omega, rfl, HI⟩
  case round =>
    obtain ⟨k, hk, rfl, hinv⟩ := hrel
    by_cases hlt : k < K
    · have hl1 : (k : Int) < (K : Int) := by omega
      have hl0 : (0 : Int) ≤ (k : Int) := by omega
      have hsp := (hv.out k (by omega)).1
      obtain ⟨g, off, spot⟩ := x
      simp only at hsp
      subst hsp
      have hval : ValAt w g (off + k * 4) (f k).k (f k).U (f k).S (f k).a (f k).n (f k).c (f k).bs w.heap.size := (hv.out k (by omega)).2
      have hts := tot_step f hlt
      have HEN : (f k).enc = encV ((f k).k % 7) (f k).U (f k).S ((f k).bs.take 300) := rfl
      generalize (f k).enc = E at hts HEN
      generalize (f k).k = kk at hval HEN
      generalize (f k).U = U at hval HEN
      generalize (f k).S = S at hval HEN
      generalize (f k).a = a at hval HEN
      generalize (f k).n = n at hval HEN
      generalize (f k).c = c at hval HEN
      generalize (f k).bs = bs at hval HEN
      have HE := Lib.hid HEN; clear HEN
      obtain ⟨u, ys, hwr, hte, hyl, hyb, hkw⟩ := hinv.out
      have hval2 := hval.kept hkw
      have c0 := hval2.c0; have c1 := hval2.c1; have c2 := hval2.c2; have c3 := hval2.c3
      have hkB := Kept.alloc (fun _ => False) wr (.cells #[.int .u8 kk, .int .u64 U, .int .i64 S, .slice a n c] 44)
      have hin : PutInL (wr.alloc (.cells #[.int .u8 kk, .int .u64 U, .int .i64 S, .slice a n c] 44)) w0.heap.size u w.heap.size ys (.slice a n c) bs := PutInL.kept ⟨hwr, by omega, hval2.b, hval2.byte⟩ hkB
      have HIN := Lib.hid hin; have HYL := Lib.hid hyl; have HYB := Lib.hid hyb; have HKW := Lib.hid (hkw.then hkB); have HVAL := Lib.hid hval2; have HTE := Lib.hid (hte.trans (by rw [hts]))
      clear hin hyl hyb hkw hval hval2 hwr hinv hte hts hkB
      go_wp2_with fail
      refine (put_loose _ w0.heap.size kk U S u w.heap.size ys a n c bs HIN.out HVAL.out.hU HVAL.out.hS).mono ?_
      rintro e w2 ⟨q, rfl, u2', hw2, hs2, hq2⟩
      have hEl := encW_len (kk % 7) U S (bs.take 300) (by simp; omega) HVAL.out.hU HVAL.out.hS
      have hEb := encW_byte (kk % 7) U S (bs.take 300) (fun b hb => HVAL.out.byte b (List.mem_of_mem_take hb))
      rw [← HE.out] at hw2 hEl hEb
      have hkw2 : Kept (fun _ => False) w w2 := HKW.out.trans hs2.kept (fun _ _ h => h) (fun i hi e => HIN.out.wr.low hi e)
      have HI2 : Hid (BInv w w2 w0.heap.size f K (k + 1)) := ⟨u2', ys ++ E, hw2, by rw [HTE.out, List.append_assoc], by have := HYL.out; rw [List.length_append]; omega, fun b hb => by
        rcases List.mem_append.1 hb with h | h
        · exact HYB.out b h
        · exact hEb b h, hkw2⟩
      clear hw2 hs2 hq2 hEl hEb hkw2
      go_wp2_with fail
      go_roundw
      case rel => exact ⟨k + 1, by omega, by go_num, HI2⟩
      case measure => simp [intOf]; omega
    · obtain rfl : k = K := by omega
      obtain ⟨u, ys, hwr, hte, hyl, hyb, hkw⟩ := hinv.out
      rw [tot_end, List.append_nil] at hte
      have hyl2 : ys.length ≤ 20000 := by omega
      have HW := Lib.hid hwr; have HTE := Lib.hid hte; have HYB := Lib.hid hyb; have HKW := Lib.hid hkw
      clear hwr hte hyb hkw hinv hyl HI hmin hK0 hK1 hK2 hK3
      go_wp2_with fail
      refine (out_any wr w0.heap.size u ys HW.out.reads (by omega) HW.out.cell).mono ?_
      rintro e w2 ⟨p, rfl, hf2, hk2⟩
      have HR2 := Lib.hid hf2.reads; have HK2 := Lib.hid hk2; clear hf2 hk2
      go_wp2_with fail
      refine (newReader_any w2 p ys HR2.out (by omega)).mono ?_
      rintro e w3 ⟨rb, rv, rfl, hrd3, hrb3, hrv3, hk3⟩
      have HRD3 := Lib.hid hrd3; have HK3 := Lib.hid (HKW.out.then (HK2.out.then hk3)); have HW3 := Lib.hid (HW.out.kept (HK2.out.then hk3) (fun h => h) (fun _ _ h => h)); have HRV3 := Lib.hid hrv3
      have hs2 := (HKW.out.then HK2.out).size
      have hrlt := hrd3.lt
      have hrvlt := hrd3.reads.lt
      have HRVL := Lib.hid hrvlt
      clear hrd3 hk3 hrv3 hrvlt HW HK2 HR2
      go_wp2_with fail
      refine (out_any w3 w0.heap.size u ys HW3.out.reads (by omega) HW3.out.cell).mono ?_
      rintro e w4 ⟨q, rfl, hf4, hk4⟩
      have HO4 := Lib.hid hf4.own; have HK4 := Lib.hid hk4
      have hs4 := hk4.size
      clear hf4 hk4
      go_wp2_with (at_builtin; refine wpList_append_own_at _ rfl _ _ _ rfl w3.heap.size 5 i0 _ 1 1 Try.underlying28 hi hz0 hz1 hz2 rfl (by omega) _ _ _ rfl (HO4.out.alloc _) ⟨w4.heap.size, 0, none⟩ 1 1 [.int .u8 mo] rfl rfl (cell_one_new _ _ _) (fun x hx => by simp at hx; subst hx; rfl) (by unfold maxLen; omega) (by omega) (by simp; omega) ?_)
      intro v6 w6 hown6 hgrow6 _ hat6
      have hr6 : Reads w6 v6 (ys ++ [mo]) := by
        have h : bv ys ++ [Value.int .u8 (mo : Int)] = bv (ys ++ [mo]) := by rw [bv_append, bv_one]
        rw [h] at hown6
        exact Reads.ofOwns hown6
      have hk36 : Kept (fun _ => False) w3 w6 := (HK4.out.then (Kept.alloc (fun _ => False) w4 _)).trans (Kept.ofGrown (S := fun k => w3.heap.size ≤ k) hgrow6 (fun k e => (HO4.out.lt k e).1)) (fun _ _ h => h) (fun i hi e => by omega)
      have HR6 := Lib.hid hr6; have HK36 := Lib.hid hk36
      clear hown6 hgrow6 hat6 hr6 hk36
      go_wp2_with fail
      refine (newReader_any w6 v6 (ys ++ [mo]) HR6.out (by simp; omega)).mono ?_
      rintro e w7 ⟨sb, sv, rfl, hsd7, hsb7, hsv7, hk7⟩
      have hs6 := HK36.out.size
      have hk37 := HK36.out.then hk7
      have HRI : Hid (RInv w w7 w.heap.size rb sb mo f k 0) := by
        refine ⟨rv, sv, ?_, ?_, by omega, fun e => by have := hsv7 _ e; omega, fun e => by have := HRVL.out _ e; omega, by omega, by omega, ?_, HK3.out.then hk37⟩
        · show Rd w7 rb rv (tot f 0 (k - 0)) 0
          rw [Nat.sub_zero, HTE.out]
          exact HRD3.out.kept hk37 (fun h => h) (fun _ _ h => h)
        · show Rd w7 sb sv (tot f 0 (k - 0) ++ [mo]) 0
          rw [Nat.sub_zero, HTE.out]
          exact hsd7
        · rw [Nat.sub_zero, HTE.out]
          intro b hb
          rcases List.mem_append.1 hb with h | h
          · exact HYB.out b h
          · simp at h; omega
      clear hsd7 hk7 hk37 HRD3 HK3 HRVL HR6 HK36 HRV3 HW3 HO4 HK4 hsv7 HTE HYB HKW hs2 hs4 hs6 hrb3 hsb7 hrlt
      go_wp2_with fail
      go_loopw [41] (fun iv wr => ∃ j : Nat, j ≤ k ∧ iv = .int .i64 j ∧ Hid (RInv w wr w.heap.size rb sb mo f k j)) (fun iv _ => k - (intOf iv).toNat)
      case atStart => exact ⟨0, by omega, rfl, HRI⟩
      case round =>
        obtain ⟨j, hj, rfl, hinv⟩ := hrel
        by_cases hlt2 : j < k
        · have hl1 : (j : Int) < (k : Int) := by omega
          have hl0 : (0 : Int) ≤ (j : Int) := by omega
          have hsp := (hv.out j (by omega)).1
          obtain ⟨g, off, spot⟩ := x
          simp only at hsp
          subst hsp
          have hval : ValAt w g (off + j * 4) (f j).k (f j).U (f j).S (f j).a (f j).n (f j).c (f j).bs w.heap.size := (hv.out j (by omega)).2
          have hts := tot_step f hlt2
          have HEN : (f j).enc = encV ((f j).k % 7) (f j).U (f j).S ((f j).bs.take 300) := rfl
          generalize (f j).enc = E at hts HEN
          generalize (f j).k = kk at hval HEN
          generalize (f j).U = U at hval HEN
          generalize (f j).S = S at hval HEN
          generalize (f j).a = a at hval HEN
          generalize (f j).n = n at hval HEN
          generalize (f j).c = c at hval HEN
          generalize (f j).bs = bs at hval HEN
          obtain ⟨rv, sv, hrd, hsd, hne, hsvr, hrvs, hBr, hBs, hby, hkw⟩ := hinv.out
          rw [hts] at hrd hsd hby
          rw [HEN] at hrd hsd hby
          generalize hrest : tot f (j + 1) (k - (j + 1)) = rest at hrd hsd hby
          have hval2 := hval.kept hkw
          have c0 := hval2.c0; have c1 := hval2.c1; have c2 := hval2.c2; have c3 := hval2.c3
          have hkB := Kept.alloc (fun _ => False) wr (.cells #[.int .u8 kk, .int .u64 U, .int .i64 S, .slice a n c] 44)
          have hin : BackInL (wr.alloc (.cells #[.int .u8 kk, .int .u64 U, .int .i64 S, .slice a n c] 44)) rb rv (encV (kk % 7) U S (bs.take 300) ++ rest) (.slice a n c) bs w.heap.size :=
            BackInL.kept ⟨hrd, fun x hx => hby x (List.mem_append_left _ hx), hval2.b, hval2.byte, hBr⟩ hkB
          have hsdB := hsd.kept hkB (fun h => h) (fun _ _ h => h)
          rw [List.append_assoc] at hsdB hby
          have hbl : rb < wr.heap.size := hrd.lt
          have hsl : sb < wr.heap.size := hsd.lt
          have HIN := Lib.hid hin; have HSD := Lib.hid hsdB; have HBY := Lib.hid hby; have HKW := Lib.hid (hkw.then hkB); have HVAL := Lib.hid hval2; have HREST := Lib.hid hrest; have HSVR := Lib.hid hsvr; have HRVS := Lib.hid hrvs
          clear hin hsdB hby hkw hval hval2 hrd hsd hinv hts hkB hrest HEN hsvr hrvs
          go_wp2_with fail
          refine (back_all _ rb kk U S rv a n c bs w.heap.size rest HIN.out HVAL.out.hU HVAL.out.hS).mono ?_
          rintro e w8 ⟨rfl, rv8, hrd8, hrv8, hk8⟩
          have d0 : w8.cell? ⟨wr.heap.size, 0, none⟩ = some (.int .u8 kk) := (hk8.cell (p := ⟨wr.heap.size, 0, none⟩) (by simp) (by simp; omega)).trans (by go_simp)
          have d1 : w8.cell? ⟨wr.heap.size, 1, none⟩ = some (.int .u64 U) := (hk8.cell (p := ⟨wr.heap.size, 1, none⟩) (by simp) (by simp; omega)).trans (by go_simp)
          have d2 : w8.cell? ⟨wr.heap.size, 2, none⟩ = some (.int .i64 S) := (hk8.cell (p := ⟨wr.heap.size, 2, none⟩) (by simp) (by simp; omega)).trans (by go_simp)
          have d3 : w8.cell? ⟨wr.heap.size, 3, none⟩ = some (.slice a n c) := (hk8.cell (p := ⟨wr.heap.size, 3, none⟩) (by simp) (by simp; omega)).trans (by go_simp)
          have hin8 : BackInL w8 sb sv (encV (kk % 7) U S (bs.take 300) ++ (rest ++ [mo])) (.slice a n c) bs w.heap.size :=
            ⟨HSD.out.kept hk8 (fun e => hne e.symm) (fun i hi e => HSVR.out (by rw [hi, e])), HBY.out, HIN.out.after hk8, HVAL.out.byte, hBs⟩
          have HIN8 := Lib.hid hin8; have HRD8 := Lib.hid hrd8; have HRV8 := Lib.hid hrv8; have HK8 := Lib.hid (HKW.out.trans hk8 (fun _ _ h => h) (fun i hi e => by omega))
          clear hin8 hrd8 hrv8 hk8 c0 c1 c2 c3
          go_wp2_with fail
          refine (back_all w8 sb kk U S sv a n c bs w.heap.size (rest ++ [mo]) HIN8.out HVAL.out.hU HVAL.out.hS).mono ?_
          rintro e w9 ⟨rfl, sv9, hsd9, hsv9, hk9⟩
          have hrd9 := HRD8.out.kept hk9 hne (fun i hi e => HRVS.out (by rw [← HRV8.out, hi, e]))
          have HRD9 := Lib.hid hrd9; have HSD9 := Lib.hid hsd9
          have HI9 : Hid (RInv w w9 w.heap.size rb sb mo f k (j + 1)) := by
            refine ⟨rv8, sv9, ?_, ?_, hne, ?_, ?_, hBr, hBs, ?_, HK8.out.trans hk9 (fun _ _ h => h) (fun i hi e => by omega)⟩
            · rw [HREST.out]; exact hrd9
            · rw [HREST.out]; exact hsd9
            · rw [hsv9]; exact HSVR.out
            · rw [HRV8.out]; exact HRVS.out
            · rw [HREST.out]; exact fun b hb => HBY.out b (List.mem_append_right _ hb)
          clear hrd9 hsd9 hsv9 hk9 d0 d1 d2 d3
          go_wp2_with fail
          refine (err_any w9 rb 0 HRD9.out.cell1).mono ?_
          rintro e w' ⟨rfl, rfl⟩
          go_wp2_with fail
          refine (err_any w9 sb 0 HSD9.out.cell1).mono ?_
          rintro e w' ⟨rfl, rfl⟩
          go_wp2_with fail
          go_roundw
          case rel => exact ⟨j + 1, by omega, by go_num, HI9⟩
          case measure => simp [intOf]; omega
        · obtain rfl : j = k := by omega
          obtain ⟨rv, sv, hrd, hsd, hne, hsvr, hrvs, hBr, hBs, hby, hkw⟩ := hinv.out
          rw [tot_end] at hrd hsd
          obtain ⟨ra, rc, hrf⟩ := reads_slice hrd.reads
          obtain ⟨sa, sc, hsf⟩ := reads_slice hsd.reads
          have c0 := hrd.cell0
          rw [hrf] at c0
          have e0 := hsd.cell0
          rw [hsf] at e0
          have C0 := Lib.hid (show wr.cell? ⟨rb, 0, none⟩ = some (.slice ra 0 rc) from c0); have E0 := Lib.hid (show wr.cell? ⟨sb, 0, none⟩ = some (.slice sa 1 sc) from e0)
          have HE1 := Lib.hid (end_any wr rb rv [] 0 hrd)
          have HE2 := Lib.hid (end_any wr sb sv ([] ++ [mo]) 0 hsd)
          rw [if_neg (by simp)] at HE1
          rw [if_pos (by simp)] at HE2
          have HC1 := Lib.hid hsd.cell1; have HKW := Lib.hid hkw
          clear hrd hsd hby hkw c0 e0 hrf hsf hinv hsvr hrvs
          go_wp2_with fail
          refine (left_any wr rb ra 0 rc C0.out).mono ?_
          rintro e w' ⟨rfl, rfl⟩
          go_wp2_with fail
          refine HE1.out.mono ?_
          rintro e w' ⟨rfl, rfl⟩
          go_wp2_with fail
          refine (left_any wr sb sa 1 sc E0.out).mono ?_
          rintro e w' ⟨rfl, rfl⟩
          go_wp2_with fail
          refine HE2.out.mono ?_
          rintro e w' ⟨rfl, rfl⟩
          go_wp2_with fail
          refine (err_any wr sb 0 HC1.out).mono ?_
          rintro e w' ⟨rfl, rfl⟩
          go_wp2_with fail
          go_ret
          exact ⟨by simp, HKW.out.below (Nat.le_refl _) (fun _ h => h.elim)⟩

set_option maxRecDepth 100000 in
set_option maxHeartbeats 6400000 in
theorem backl_nil (mo : Nat) (f : Nat → Rec) (w : World) (hmo : mo < 256) :
    Calls Try.prog 5 #[.slice none 0 0, .int .u8 mo] w fun e w' => e = .returned (.bool true) ∧ Below w.heap.size w w' := by
  obtain ⟨i0, hi, hz0, hz1, hz2⟩ := info_parts info_u8
  have hmin : min (0 : Int) 20 = 0 := by decide
  go_enter Try.func5, Try.ntmps5
  go_wp2_with fail
  refine (awake_any w).mono ?_
  rintro e w0 ⟨rfl, hk0⟩
  go_wp2_with fail
  refine (newWriter_any w0).mono ?_
  rintro e w1 ⟨rfl, hw1⟩
  have hk1 : Kept (fun _ => False) w0 w1 := by rw [hw1]; exact Kept.alloc _ _ _
  have hwr1 : Wr w1 w0.heap.size (.slice none 0 0) w.heap.size [] := by rw [hw1]; exact wr_new w0 w.heap.size hk0.size
  have HI : Hid (BInv w w1 w0.heap.size f 0 0) := ⟨_, [], hwr1, by simp, by simp, by simp, hk0.then hk1⟩
  have hwb : w.heap.size ≤ w0.heap.size := hk0.size
  clear hk0 hk1 hwr1 hw1
  go_wp2_with fail
  go_loopw [22] (fun iv wr => ∃ k : Nat, k ≤ 0 ∧ iv = .int .i64 k ∧ Hid (BInv w wr w0.heap.size f 0 k)) (fun iv _ => 0 - (intOf iv).toNat)
  case atStart => exact ⟨0, by omega, rfl, HI⟩
  case round =>
    obtain ⟨k, hk, rfl, hinv⟩ := hrel
    by_cases hlt : k < 0
    · omega
    · obtain rfl : k = 0 := by omega
      obtain ⟨u, ys, hwr, hte, hyl, hyb, hkw⟩ := hinv.out
      rw [tot_end, List.append_nil] at hte
      have hyl2 : ys.length ≤ 20000 := by omega
      have HW := Lib.hid hwr; have HTE := Lib.hid hte; have HYB := Lib.hid hyb; have HKW := Lib.hid hkw
      clear hwr hte hyb hkw hinv hyl HI
      go_wp2_with fail
      refine (out_any wr w0.heap.size u ys HW.out.reads (by omega) HW.out.cell).mono ?_
      rintro e w2 ⟨p, rfl, hf2, hk2⟩
      have HR2 := Lib.hid hf2.reads; have HK2 := Lib.hid hk2; clear hf2 hk2
      go_wp2_with fail
      refine (newReader_any w2 p ys HR2.out (by omega)).mono ?_
      rintro e w3 ⟨rb, rv, rfl, hrd3, hrb3, hrv3, hk3⟩
      have HRD3 := Lib.hid hrd3; have HK3 := Lib.hid (HKW.out.then (HK2.out.then hk3)); have HW3 := Lib.hid (HW.out.kept (HK2.out.then hk3) (fun h => h) (fun _ _ h => h)); have HRV3 := Lib.hid hrv3
      have hs2 := (HKW.out.then HK2.out).size
      have hrlt := hrd3.lt
      have hrvlt := hrd3.reads.lt
      have HRVL := Lib.hid hrvlt
      clear hrd3 hk3 hrv3 hrvlt HW HK2 HR2
      go_wp2_with fail
      refine (out_any w3 w0.heap.size u ys HW3.out.reads (by omega) HW3.out.cell).mono ?_
      rintro e w4 ⟨q, rfl, hf4, hk4⟩
      have HO4 := Lib.hid hf4.own; have HK4 := Lib.hid hk4
      have hs4 := hk4.size
      clear hf4 hk4
      go_wp2_with (at_builtin; refine wpList_append_own_at _ rfl _ _ _ rfl w3.heap.size 5 i0 _ 1 1 Try.underlying28 hi hz0 hz1 hz2 rfl (by omega) _ _ _ rfl (HO4.out.alloc _) ⟨w4.heap.size, 0, none⟩ 1 1 [.int .u8 mo] rfl rfl (cell_one_new _ _ _) (fun x hx => by simp at hx; subst hx; rfl) (by unfold maxLen; omega) (by omega) (by simp; omega) ?_)
      intro v6 w6 hown6 hgrow6 _ hat6
      have hr6 : Reads w6 v6 (ys ++ [mo]) := by
        have h : bv ys ++ [Value.int .u8 (mo : Int)] = bv (ys ++ [mo]) := by rw [bv_append, bv_one]
        rw [h] at hown6
        exact Reads.ofOwns hown6
      have hk36 : Kept (fun _ => False) w3 w6 := (HK4.out.then (Kept.alloc (fun _ => False) w4 _)).trans (Kept.ofGrown (S := fun k => w3.heap.size ≤ k) hgrow6 (fun k e => (HO4.out.lt k e).1)) (fun _ _ h => h) (fun i hi e => by omega)
      have HR6 := Lib.hid hr6; have HK36 := Lib.hid hk36
      clear hown6 hgrow6 hat6 hr6 hk36
      go_wp2_with fail
      refine (newReader_any w6 v6 (ys ++ [mo]) HR6.out (by simp; omega)).mono ?_
      rintro e w7 ⟨sb, sv, rfl, hsd7, hsb7, hsv7, hk7⟩
      have hs6 := HK36.out.size
      have hk37 := HK36.out.then hk7
      have hys : ys = [] := HTE.out.symm
      subst hys
      have HRI : Hid (RInv w w7 w.heap.size rb sb mo f 0 0) := by
        refine ⟨rv, sv, ?_, ?_, by omega, fun e => by have := hsv7 _ e; omega, fun e => by have := HRVL.out _ e; omega, by omega, by omega, ?_, HK3.out.then hk37⟩
        · show Rd w7 rb rv (tot f 0 (0 - 0)) 0
          exact HRD3.out.kept hk37 (fun h => h) (fun _ _ h => h)
        · show Rd w7 sb sv (tot f 0 (0 - 0) ++ [mo]) 0
          exact hsd7
        · show ∀ b ∈ ([] : List Nat) ++ [mo], b < 256
          intro b hb
          rcases List.mem_append.1 hb with h | h
          · exact HYB.out b h
          · simp at h; omega
      clear hsd7 hk7 hk37 HRD3 HK3 HRVL HR6 HK36 HRV3 HW3 HO4 HK4 hsv7 HTE HYB HKW hs2 hs4 hs6 hrb3 hsb7 hrlt
      go_wp2_with fail
      go_loopw [41] (fun iv wr => ∃ j : Nat, j ≤ 0 ∧ iv = .int .i64 j ∧ Hid (RInv w wr w.heap.size rb sb mo f 0 j)) (fun iv _ => 0 - (intOf iv).toNat)
      case atStart => exact ⟨0, by omega, rfl, HRI⟩
      case round =>
        obtain ⟨j, hj, rfl, hinv⟩ := hrel
        by_cases hlt2 : j < 0
        · omega
        · obtain rfl : j = 0 := by omega
          obtain ⟨rv, sv, hrd, hsd, hne, hsvr, hrvs, hBr, hBs, hby, hkw⟩ := hinv.out
          rw [tot_end] at hrd hsd
          obtain ⟨ra, rc, hrf⟩ := reads_slice hrd.reads
          obtain ⟨sa, sc, hsf⟩ := reads_slice hsd.reads
          have c0 := hrd.cell0
          rw [hrf] at c0
          have e0 := hsd.cell0
          rw [hsf] at e0
          have C0 := Lib.hid (show wr.cell? ⟨rb, 0, none⟩ = some (.slice ra 0 rc) from c0); have E0 := Lib.hid (show wr.cell? ⟨sb, 0, none⟩ = some (.slice sa 1 sc) from e0)
          have HE1 := Lib.hid (end_any wr rb rv [] 0 hrd)
          have HE2 := Lib.hid (end_any wr sb sv ([] ++ [mo]) 0 hsd)
          rw [if_neg (by simp)] at HE1
          rw [if_pos (by simp)] at HE2
          have HC1 := Lib.hid hsd.cell1; have HKW := Lib.hid hkw
          clear hrd hsd hby hkw c0 e0 hrf hsf hinv hsvr hrvs
          go_wp2_with fail
          refine (left_any wr rb ra 0 rc C0.out).mono ?_
          rintro e w' ⟨rfl, rfl⟩
          go_wp2_with fail
          refine HE1.out.mono ?_
          rintro e w' ⟨rfl, rfl⟩
          go_wp2_with fail
          refine (left_any wr sb sa 1 sc E0.out).mono ?_
          rintro e w' ⟨rfl, rfl⟩
          go_wp2_with fail
          refine HE2.out.mono ?_
          rintro e w' ⟨rfl, rfl⟩
          go_wp2_with fail
          refine (err_any wr sb 0 HC1.out).mono ?_
          rintro e w' ⟨rfl, rfl⟩
          go_wp2_with fail
          go_ret
          exact ⟨by simp, HKW.out.below (Nat.le_refl _) (fun _ h => h.elim)⟩

/-- 'WireBack' of any list that came in. -/
theorem backl_any (v : Value) (N mo : Nat) (w : World) (h : Vals w v N w.heap.size) (hmo : mo < 256) :
    Calls Try.prog 5 #[v, .int .u8 mo] w fun e w' => e = .returned (.bool true) ∧ Below w.heap.size w w' := by
  have r0 : Rec := ⟨0, 0, 0, none, 0, 0, []⟩
  rcases h with ⟨⟨a, c, rfl, hn, hc⟩, _⟩ | ⟨g, off, cap, rfl, ⟨hcap, hcm⟩, hv⟩
  · cases a with
    | none => rw [hn rfl]; exact backl_nil mo (fun _ => r0) w hmo
    | some x => exact backl_at x c 0 mo (fun _ => r0) w (Nat.zero_le _) hc hmo (Lib.hid fun i hi => absurd hi (Nat.not_lt_zero i))
  · have hf : ∀ i, ∃ r : Rec, i < N → r.At w g (off + i * 4) w.heap.size := fun i => by
      by_cases hi : i < N
      · obtain ⟨k, U, S, a, n, c, bs, h⟩ := hv i hi
        exact ⟨⟨k, U, S, a, n, c, bs⟩, fun _ => h⟩
      · exact ⟨r0, fun h => absurd h hi⟩
    obtain ⟨f, hf⟩ := Classical.axiomOfChoice hf
    exact backl_at ⟨g, off, none⟩ cap N mo f w hcap hcm hmo (show Hid _ from Lib.hid fun i hi => ⟨rfl, hf i hi⟩)

end Go.Proofs.Ytknphfednknajab
