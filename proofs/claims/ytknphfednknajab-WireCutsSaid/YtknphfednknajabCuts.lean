/-
  arbaclaw02.WireCuts returns true for every value and every cut; nothing that was there is changed.
-/
import Derived.Test.YtknphfednknajabAwake
import Derived.Test.YtknphfednknajabBackV2
import Derived.Test.YtknphfednknajabBackS
namespace Go.Proofs.Ytknphfednknajab
open Go.RowKit

theorem rd_slice2 {w : World} {rb : Nat} {v : Value} {xs : List Nat} {err : Int} (h : Rd w rb v xs err) : ∃ a c, v = .slice a xs.length c := by
  rcases h.reads with ⟨h, h2⟩ | ⟨g, off, cap, h, _⟩
  · exact ⟨none, 0, by rw [h, h2]; rfl⟩
  · exact ⟨_, _, h⟩

/-- A boxed value: its four cells. -/
structure BoxAt (w : World) (b k U : Nat) (S : Int) (v : Value) : Prop where
  c0 : w.cell? ⟨b, 0, none⟩ = some (.int .u8 k)
  c1 : w.cell? ⟨b, 1, none⟩ = some (.int .u64 U)
  c2 : w.cell? ⟨b, 2, none⟩ = some (.int .i64 S)
  c3 : w.cell? ⟨b, 3, none⟩ = some v

theorem BoxAt.kept {T : Nat → Prop} {w w' : World} {b k U : Nat} {S : Int} {v : Value} (h : BoxAt w b k U S v) (hk : Kept T w w') (hn : ¬ T b) : BoxAt w' b k U S v := by
  have hlt : b < w.heap.size := World.block_lt_of_cell? w _ h.c0
  exact ⟨(hk.cell (p := ⟨b, 0, none⟩) hlt hn).trans h.c0, (hk.cell (p := ⟨b, 1, none⟩) hlt hn).trans h.c1, (hk.cell (p := ⟨b, 2, none⟩) hlt hn).trans h.c2, (hk.cell (p := ⟨b, 3, none⟩) hlt hn).trans h.c3⟩

set_option maxRecDepth 100000 in
set_option maxHeartbeats 3200000 in
theorem cuts_any (k U : Nat) (S : Int) (a : Option Addr) (n c : Nat) (bs : List Nat) (cut : Nat) (w : World) (hp : InBytes w (.slice a n c) bs) (_hk : k < 256) (hU : U < 18446744073709551616) (hS : -9223372036854775808 ≤ S ∧ S < 9223372036854775808) (hcut : cut < 65536) :
    Calls Try.prog 7 #[.agg #[.int .u8 k, .int .u64 U, .int .i64 S, .slice a n c], .int .u16 cut] w fun e w' => e = .returned (.bool true) ∧ Below w.heap.size w w' := by
  have HP := Lib.hid hp; clear hp
  have HU := Lib.hid hU; have HS := Lib.hid hS; clear hU hS
  have hcw : IntKind.i64.wrap (cut : Int) = (cut : Int) := IntWalk.i64_in _ (by omega)
  have hkA := Kept.alloc (fun _ => False) w (.cells #[.int .u8 k, .int .u64 U, .int .i64 S, .slice a n c] 44)
  have hbox : BoxAt (w.alloc (.cells #[.int .u8 k, .int .u64 U, .int .i64 S, .slice a n c] 44)) w.heap.size k U S (.slice a n c) := ⟨by go_simp, by go_simp, by go_simp, by go_simp⟩
  have HKA := Lib.hid hkA; have HBOX := Lib.hid hbox; clear hkA hbox
  obtain ⟨kk, hkk⟩ : ∃ kk : Nat, kk = k % 7 := ⟨_, rfl⟩
  have hk7 : (k : Int) % 7 = (kk : Int) := by omega
  by_cases h5 : kk = 5
  · subst h5
    clear hkk
    go_enter Try.func7, Try.ntmps7
    go_wp2_with fail
    refine (awake_any _).mono ?_
    rintro e w0 ⟨rfl, hk0⟩
    have HB0 := Lib.hid (HBOX.out.kept hk0 (fun h => h))
    have c0 := HB0.out.c0
    have HK := Lib.hid (HKA.out.then hk0)
    clear hk0
    go_wp2_with fail
    go_ret
    exact ⟨by simp, HK.out.below (Nat.le_refl _) (fun _ h => h.elim)⟩
  · have h5b : ((kk : Int) == 5) = false := by simp; omega
    have HKK := Lib.hid hkk; clear hkk
    go_enter Try.func7, Try.ntmps7
    go_wp2_with fail
    refine (awake_any _).mono ?_
    rintro e w0 ⟨rfl, hk0⟩
    have HB0 := Lib.hid (HBOX.out.kept hk0 (fun h => h))
    have c0 := HB0.out.c0
    have HK0 := Lib.hid (HKA.out.then hk0)
    clear hk0
    go_wp2_with fail
    refine (newWriter_any w0).mono ?_
    rintro e w1 ⟨rfl, hw1⟩
    have hk1 : Kept (fun _ => False) w0 w1 := by rw [hw1]; exact Kept.alloc _ _ _
    have hwr1 : Wr w1 w0.heap.size (.slice none 0 0) w.heap.size [] := by rw [hw1]; exact wr_new w0 w.heap.size HK0.out.size
    have hk01 := HK0.out.then hk1
    have hin1 : PutIn w1 w0.heap.size (.slice none 0 0) w.heap.size [] (.slice a n c) bs := ⟨hwr1, by simp, HP.out.reads.kept hk01 (fun _ _ h => h), HP.out.byte, HP.out.reads.lt⟩
    have HB1 := Lib.hid (HB0.out.kept hk1 (fun h => h))
    have d0 := HB1.out.c0; have d1 := HB1.out.c1; have d2 := HB1.out.c2; have d3 := HB1.out.c3
    have HIN := Lib.hid hin1; have HK1 := Lib.hid hk01
    have hbl : w.heap.size < w0.heap.size := World.block_lt_of_cell? w0 _ c0
    clear hw1 hk1 hwr1 hk01 hin1 c0
    go_wp2_with fail
    refine (put_val w1 w0.heap.size k U S _ w.heap.size [] a n c bs HIN.out HU.out HS.out).mono ?_
    rintro e w2 ⟨q, rfl, u2, hw2, hs2, hq2⟩
    rw [List.nil_append] at hw2
    have hno : ∀ j, ¬ j = w0.heap.size → ¬ (j = w0.heap.size ∨ blk (.slice none 0 0) j) := by
      rintro j h (e | e)
      · exact h e
      · simp [blk, Value.ownBlock] at e
    have HB2 := Lib.hid (HB1.out.kept hs2.kept (hno _ (by omega)))
    have hk2 : Kept (fun _ => False) w w2 := HK1.out.trans hs2.kept (fun _ _ h => h) fun i hi e => hno i (by omega) e
    have hpos := encV_pos (k % 7) U S (bs.take 300) (by rw [← HKK.out]; exact h5)
    have hlen := encV_len (k % 7) U S (bs.take 300) (by simp; omega) HU.out HS.out
    have hbyte := encV_byte (k % 7) U S (bs.take 300) (fun b hb => HP.out.byte b (List.mem_of_mem_take hb))
    have hcutS := fun m hm => backS_cut (k % 7) U m S (bs.take 300) (by omega) (by rw [← HKK.out]; exact h5) (by simp; omega) hm
    generalize encV (k % 7) U S (bs.take 300) = E at hw2 hq2 hpos hlen hbyte hcutS
    obtain ⟨qa, qc, hqf⟩ := reads_slice hq2
    obtain ⟨L, hL⟩ : ∃ L, L = E.length := ⟨_, rfl⟩
    rw [← hL] at hqf hpos hlen
    obtain ⟨m, hm⟩ : ∃ m, m = cut % L := ⟨_, rfl⟩
    have hmL : m < L := by rw [hm]; exact Nat.mod_lt _ hpos
    have hL0 : ((L : Int) == 0) = false := by simp; omega
    have hr1 : (cut : Int) % (L : Int) = (m : Int) := by rw [hm]; exact (Int.natCast_emod cut L).symm
    have hr2 : (cut : Int).tmod (L : Int) = (m : Int) := by rw [Int.tmod_eq_emod_of_nonneg (by omega)]; exact hr1
    have HM := Lib.hid hm; have HL := Lib.hid hL
    have HW2 := Lib.hid hw2; have HK2 := Lib.hid hk2
    have HBY := Lib.hid hbyte; have HCUT := Lib.hid hcutS
    have hel : E.length ≤ 1000 := by rw [← hL]; exact hlen
    have HEL := Lib.hid hel
    subst hqf
    clear hm hL hq2 hs2 hw2 hk2 hbyte hcutS hno hel HIN d0 d1 d2 d3
    go_wp2_with fail
    refine (out_any w2 w0.heap.size u2 E HW2.out.reads (by have := HEL.out; omega) HW2.out.cell).mono ?_
    rintro e w3 ⟨q1, rfl, hf3, hk3⟩
    obtain ⟨g, cap, hq1, hB1, hg1⟩ := hf3.own.form (by rw [← HL.out]; exact hpos)
    rw [← HL.out] at hq1
    have hcap : L ≤ cap := by
      rcases hf3.reads with ⟨h, _⟩ | ⟨g', off', cap', h, h1, _⟩
      · rw [hq1] at h; cases h
      · rw [hq1] at h; injection h with _ _ e3; rw [e3, HL.out]; exact h1
    have hcm : cap ≤ 9223372036854775807 := by
      rcases hf3.reads with ⟨h, _⟩ | ⟨g', off', cap', h, _, h2, _⟩
      · rw [hq1] at h; cases h
      · rw [hq1] at h; injection h with _ _ e3; rw [e3]; unfold maxLen at h2; omega
    have hrq := hf3.reads
    rw [hq1] at hrq
    have HRQ := Lib.hid hrq; have HW3 := Lib.hid (HW2.out.kept hk3 (fun h => h) (fun _ _ h => h)); have HB3 := Lib.hid (HB2.out.kept hk3 (fun h => h)); have HK3 := Lib.hid (HK2.out.then hk3)
    subst hq1
    clear hf3 hk3 hrq hB1 hg1
    go_wp2_with fail
    refine (out_any w3 w0.heap.size u2 E HW3.out.reads (by have := HEL.out; omega) HW3.out.cell).mono ?_
    rintro e w4 ⟨q2, rfl, hf4, hk4⟩
    obtain ⟨qa2, qc2, hq2⟩ := own_form hf4.own
    rw [← HL.out] at hq2
    have HRQ4 := Lib.hid (HRQ.out.kept hk4 (fun _ _ h => h)); have HB4 := Lib.hid (HB3.out.kept hk4 (fun h => h)); have HK4 := Lib.hid (HK3.out.then hk4)
    subst hq2
    clear hf4 hk4
    have hmin : min (m : Int) (L : Int) = (m : Int) := by omega
    have hm0 : (0 : Int) ≤ (m : Int) := by omega
    have hm1 : (m : Int) ≤ (L : Int) := by omega
    have hm2 : (m : Int) ≤ (cap : Int) := by omega
    have hm3 : m ≤ cap := by omega
    have htk : Reads w4 (.slice (some ⟨g, 0, none⟩) m cap) (E.take m) := by
      have h4 := HRQ4.out
      rw [HL.out] at h4
      exact Reads.take m h4 (by rw [← HL.out]; omega)
    go_wp2_with fail
    refine (newReader_any w4 _ (E.take m) htk (by have := HEL.out; simp; omega)).mono ?_
    rintro e w5 ⟨rb, rv, rfl, hrd5, hrb5, hrv5, hk5⟩
    have HB5 := Lib.hid (HB4.out.kept hk5 (fun h => h))
    have e0 := HB5.out.c0; have e1 := HB5.out.c1; have e2 := HB5.out.c2; have e3 := HB5.out.c3
    have hk05 := HK4.out.then hk5
    have hs4 := HK4.out.size
    have hin5 : BackIn w5 rb rv (E.take m) (.slice a n c) bs := ⟨hrd5, fun x hx => HBY.out x (List.mem_of_mem_take hx), HP.out.reads.kept hk05 (fun _ _ h => h), HP.out.byte, fun e => by have := HP.out.reads.lt _ e; omega⟩
    have HIN5 := Lib.hid hin5; have HK5 := Lib.hid hk05
    clear hin5 hrd5 hk5 htk hrv5 hk05
    go_wp2_with fail
    refine (back_val w5 rb k U S rv (E.take m) a n c bs HIN5.out (by rw [← HKK.out]; exact h5)).mono ?_
    rintro e w6 ⟨rfl, rv6, hrd6, hrv6, hk6⟩
    have hres := HCUT.out m (by rw [← HL.out]; exact hmL)
    rw [hres] at hrd6
    have hk06 : Kept (fun _ => False) w w6 := HK5.out.trans hk6 (fun _ _ h => h) (fun i hi e => by omega)
    obtain ⟨ra, rc, hrf⟩ := rd_slice2 hrd6
    have c0 := hrd6.cell0
    rw [hrf, show (E.take m).length = m by simp; rw [← HL.out]; omega] at c0
    have HC0 := Lib.hid c0; have HC1 := Lib.hid hrd6.cell1; have HK6 := Lib.hid hk06
    clear c0 hrd6 hrf hk06 hk6 hres hrv6 e0 e1 e2 e3
    generalize (backS (k % 7) U S (bs.take 300) (E.take m)).1 = bb
    go_wp2_with fail
    refine (err_any w6 rb 6 HC1.out).mono ?_
    rintro e w' ⟨rfl, rfl⟩
    go_wp2_with fail
    refine (left_any w6 rb ra m rc HC0.out).mono ?_
    rintro e w' ⟨rfl, rfl⟩
    go_wp2_with fail
    go_ret
    exact ⟨by simp, HK6.out.below (Nat.le_refl _) (fun _ h => h.elim)⟩

end Go.Proofs.Ytknphfednknajab
