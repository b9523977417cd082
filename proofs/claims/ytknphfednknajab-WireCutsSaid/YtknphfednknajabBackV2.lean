/-
  arbaclaw02.back: bytes, flags, sets; and any kind but raw bytes.
-/
import Derived.Test.YtknphfednknajabBackV
namespace Go.Proofs.Ytknphfednknajab
open Go.RowKit

section
variable (w : World) (rb k U : Nat) (S : Int) (v : Value) (xs : List Nat) (a : Option Addr) (n c : Nat) (bs : List Nat)

set_option maxRecDepth 100000 in
set_option maxHeartbeats 1600000 in
theorem back_v3 (h : BackIn w rb v xs (.slice a n c) bs) (hk7 : ((k : Int) % 7) = 3) :
    Calls Try.prog 22 #[.pointer (some ⟨rb, 0, none⟩), .agg #[.int .u8 k, .int .u64 U, .int .i64 S, .slice a n c]] w fun e w' => BackRes w w' rb v (backS 3 U S (bs.take 300) xs) e := by
  have hkA := Kept.alloc (fun _ => False) w (.cells #[.int .u8 k, .int .u64 U, .int .i64 S, .slice a n c] 44)
  have HA := Lib.hid (h.kept hkA); have HKA := Lib.hid hkA; have H := Lib.hid h; clear h hkA
  have hcl : (bs.take 300).length ≤ 300 := by simp; omega
  obtain ⟨cs, hcs⟩ : ∃ cs, cs = bs.take 300 := ⟨_, rfl⟩
  rw [← hcs] at hcl ⊢
  have HCS := Lib.hid hcs; clear hcs
  go_enter Try.func22, Try.ntmps22
  go_wp2_with fail
  refine (short_any _ _ bs HA.out.b).mono ?_
  rintro e wA ⟨cv, rfl, hr, ho, rfl⟩
  have HC := Lib.hid (HA.out.short hr ho)
  rw [← HCS.out] at HC
  clear hr ho
  obtain ⟨cva, cvn, hcf⟩ := reads_slice HC.out.b
  obtain ⟨N, hN⟩ : ∃ N, N = cs.length := ⟨_, rfl⟩
  rw [← hN] at hcf hcl
  have HN := Lib.hid hN; clear hN
  subst hcf
  have hpl : (pieceS xs N 0).1.length ≤ 300 := by
    by_cases he : (pieceS xs N 0).2.2 = 0
    · have := pieceS_len xs N 0 he; omega
    · rw [(pieceS_err xs N 0 he).1]; simp
  have hp := rbytes_any _ rb v xs 0 N HA.out.rd HA.out.xbyte (by show (N : Int) < 9223372036854775808; omega) (by omega)
  have HP := Lib.hid hp; clear hp
  go_wp2_with fail
  refine HP.out.mono ?_
  rintro e w6 ⟨q, v6, rfl, hf6, hrd6, hrv6, hk6⟩
  have HK6 := Lib.hid hk6; have HRV6 := Lib.hid hrv6; have HRD6 := Lib.hid hrd6; have HF6 := Lib.hid hf6.reads; clear hk6 hrv6 hrd6 hf6
  go_wp2_with fail
  refine (same_any w6 q _ _ cs HF6.out (HC.out.after HK6.out) (pieceS_byte N 0 HA.out.xbyte).1 HC.out.byte).mono ?_
  rintro e w7 ⟨rfl, rfl⟩
  go_wp2_with fail
  go_ret
  have hE : backS 3 U S cs xs = (decide ((pieceS xs N 0).1 = cs), (pieceS xs N 0).2) := by rw [HN.out]; rfl
  rw [hE]
  exact ⟨rfl, v6, HRD6.out, HRV6.out, HKA.out.pre HK6.out⟩

set_option maxRecDepth 100000 in
set_option maxHeartbeats 1600000 in
theorem back_v4t (h : BackIn w rb v xs (.slice a n c) bs) (hr : U % 2 = 1) (hk7 : ((k : Int) % 7) = 4) :
    Calls Try.prog 22 #[.pointer (some ⟨rb, 0, none⟩), .agg #[.int .u8 k, .int .u64 U, .int .i64 S, .slice a n c]] w fun e w' => BackRes w w' rb v (backS 4 U S (bs.take 300) xs) e := by
  have hr2 : (U : Int) % 2 = 1 := by omega
  have hr3 : (U : Int).tmod 2 = 1 := by rw [Int.tmod_eq_emod_of_nonneg (by omega)]; exact hr2
  have hrd : decide (U % 2 = 1) = true := by rw [hr]; rfl
  have HRD := Lib.hid hrd; clear hrd hr
  have hkA := Kept.alloc (fun _ => False) w (.cells #[.int .u8 k, .int .u64 U, .int .i64 S, .slice a n c] 44)
  have HA := Lib.hid (h.kept hkA); have HKA := Lib.hid hkA; have H := Lib.hid h; clear h hkA
  have b1 : (w.alloc (.cells #[.int .u8 k, .int .u64 U, .int .i64 S, .slice a n c] 44)).cell? ⟨w.heap.size, 1, none⟩ = some (.int .u64 U) := by go_simp
  go_enter Try.func22, Try.ntmps22
  go_wp2_with fail
  refine (short_any _ _ bs HA.out.b).mono ?_
  rintro e wA ⟨cv, rfl, hr, ho, rfl⟩
  clear hr ho
  go_wp2_with fail
  have hlt := H.out.rd.lt
  go_region_held3 (fun w' => w'.cell? ⟨w.heap.size, 1, none⟩ = some (.int .u64 U))
    (first | go_keep)
    ((first | (go_at_call 44; refine (rflag_any _ rb v xs 0 (by exact HA.out.rd.drew)).mono ?_; rintro e w6 ⟨rfl, v6, hrd6, hrv6, hk6⟩; have HK6 := Lib.hid hk6; have HRV6 := Lib.hid hrv6; have HRD6 := Lib.hid hrd6; have b60 := (hk6.cell (p := ⟨w.heap.size, 1, none⟩) (by simp) (by simp; omega)).trans (by exact b1); clear hk6 hrv6 hrd6)))
  go_wp2_with fail
  go_ret
  have hE : backS 4 U S (bs.take 300) xs = (decide ((flagS xs 0).1 = true), (flagS xs 0).2) := by rw [← HRD.out]; rfl
  rw [hE]
  exact ⟨by cases (flagS xs 0).1 <;> rfl, v6, HRD6.out, HRV6.out, HKA.out.drew.pre HK6.out⟩

set_option maxRecDepth 100000 in
set_option maxHeartbeats 1600000 in
theorem back_v4f (h : BackIn w rb v xs (.slice a n c) bs) (hr : U % 2 = 0) (hk7 : ((k : Int) % 7) = 4) :
    Calls Try.prog 22 #[.pointer (some ⟨rb, 0, none⟩), .agg #[.int .u8 k, .int .u64 U, .int .i64 S, .slice a n c]] w fun e w' => BackRes w w' rb v (backS 4 U S (bs.take 300) xs) e := by
  have hr2 : (U : Int) % 2 = 0 := by omega
  have hr3 : (U : Int).tmod 2 = 0 := by rw [Int.tmod_eq_emod_of_nonneg (by omega)]; exact hr2
  have hrd : decide (U % 2 = 1) = false := by rw [hr]; rfl
  have HRD := Lib.hid hrd; clear hrd hr
  have hkA := Kept.alloc (fun _ => False) w (.cells #[.int .u8 k, .int .u64 U, .int .i64 S, .slice a n c] 44)
  have HA := Lib.hid (h.kept hkA); have HKA := Lib.hid hkA; have H := Lib.hid h; clear h hkA
  have b1 : (w.alloc (.cells #[.int .u8 k, .int .u64 U, .int .i64 S, .slice a n c] 44)).cell? ⟨w.heap.size, 1, none⟩ = some (.int .u64 U) := by go_simp
  go_enter Try.func22, Try.ntmps22
  go_wp2_with fail
  refine (short_any _ _ bs HA.out.b).mono ?_
  rintro e wA ⟨cv, rfl, hr, ho, rfl⟩
  clear hr ho
  go_wp2_with fail
  have hlt := H.out.rd.lt
  go_region_held3 (fun w' => w'.cell? ⟨w.heap.size, 1, none⟩ = some (.int .u64 U))
    (first | go_keep)
    ((first | (go_at_call 44; refine (rflag_any _ rb v xs 0 (by exact HA.out.rd.drew)).mono ?_; rintro e w6 ⟨rfl, v6, hrd6, hrv6, hk6⟩; have HK6 := Lib.hid hk6; have HRV6 := Lib.hid hrv6; have HRD6 := Lib.hid hrd6; have b60 := (hk6.cell (p := ⟨w.heap.size, 1, none⟩) (by simp) (by simp; omega)).trans (by exact b1); clear hk6 hrv6 hrd6)))
  go_wp2_with fail
  go_ret
  have hE : backS 4 U S (bs.take 300) xs = (decide ((flagS xs 0).1 = false), (flagS xs 0).2) := by rw [← HRD.out]; rfl
  rw [hE]
  exact ⟨by cases (flagS xs 0).1 <;> rfl, v6, HRD6.out, HRV6.out, HKA.out.drew.pre HK6.out⟩

set_option maxRecDepth 100000 in
set_option maxHeartbeats 1600000 in
theorem back_v6 (h : BackIn w rb v xs (.slice a n c) bs) (hk7 : ((k : Int) % 7) = 6) :
    Calls Try.prog 22 #[.pointer (some ⟨rb, 0, none⟩), .agg #[.int .u8 k, .int .u64 U, .int .i64 S, .slice a n c]] w fun e w' => BackRes w w' rb v (backS 6 U S (bs.take 300) xs) e := by
  have hkA := Kept.alloc (fun _ => False) w (.cells #[.int .u8 k, .int .u64 U, .int .i64 S, .slice a n c] 44)
  have HA := Lib.hid (h.kept hkA); have HKA := Lib.hid hkA; have H := Lib.hid h; clear h hkA
  have hcl : (bs.take 300).length ≤ 300 := by simp; omega
  obtain ⟨cs, hcs⟩ : ∃ cs, cs = bs.take 300 := ⟨_, rfl⟩
  rw [← hcs] at hcl ⊢
  have HCS := Lib.hid hcs; clear hcs
  go_enter Try.func22, Try.ntmps22
  go_wp2_with fail
  refine (short_any _ _ bs HA.out.b).mono ?_
  rintro e wA ⟨cv, rfl, hr, ho, rfl⟩
  have HC := Lib.hid (HA.out.short hr ho)
  rw [← HCS.out] at HC
  clear hr ho
  have hp := rset_ok _ rb v xs 4095 HA.out.rd HA.out.xbyte
  have HP := Lib.hid hp; clear hp
  go_wp2_with fail
  refine HP.out.mono ?_
  rintro e w6 ⟨sv, v6, rfl, hs6, hsb6, hrd6, hrv6, hk6⟩
  have HK6 := Lib.hid hk6; have HRV6 := Lib.hid hrv6; have HB6 := Lib.hid (HC.out.after hk6)
  clear hk6 hrv6 hsb6
  go_wp2_with fail
  refine (members_any w6 _ cs HB6.out HC.out.byte).mono ?_
  rintro e w7 ⟨lv, rfl, hl7, _, hk7⟩
  go_wp2_with fail
  refine (of_any w7 lv (membersOf cs) hl7).mono ?_
  rintro e w8 ⟨sv8, rfl, hs8, _, hk8⟩
  have hk68 := hk7.then hk8
  have HS68 := Lib.hid (hs6.kept hk68 (fun _ _ h => h))
  have HRD8 := Lib.hid (hrd6.kept hk68 (fun h => h) (fun _ _ h => h))
  have HK68 := Lib.hid hk68
  clear hk68 hk7 hk8 hs6 hrd6 hl7
  go_wp2_with fail
  refine (equal_any w8 sv sv8 _ _ HS68.out hs8).mono ?_
  rintro e w9 ⟨rfl, hk9⟩
  have HK9 := Lib.hid hk9; clear hk9 hs8
  go_wp2_with fail
  go_ret
  exact ⟨rfl, v6, HRD8.out.kept HK9.out (fun h => h) (fun _ _ h => h), HRV6.out, (HKA.out.pre HK6.out).trans (HK68.out.then HK9.out) (fun _ _ h => h) (fun _ _ h => h.elim)⟩

/-- 'back' of any kind but raw bytes. -/
theorem back_val (h : BackIn w rb v xs (.slice a n c) bs) (h5 : k % 7 ≠ 5) :
    Calls Try.prog 22 #[.pointer (some ⟨rb, 0, none⟩), .agg #[.int .u8 k, .int .u64 U, .int .i64 S, .slice a n c]] w fun e w' => BackRes w w' rb v (backS (k % 7) U S (bs.take 300) xs) e := by
  have hk : k % 7 = 0 ∨ k % 7 = 1 ∨ k % 7 = 2 ∨ k % 7 = 3 ∨ k % 7 = 4 ∨ k % 7 = 6 := by omega
  rcases hk with hk | hk | hk | hk | hk | hk
  all_goals rw [hk]
  · exact back_v0 w rb k U S v xs a n c bs h (by omega)
  · exact back_v1 w rb k U S v xs a n c bs h (by omega)
  · exact back_v2 w rb k U S v xs a n c bs h (by omega)
  · exact back_v3 w rb k U S v xs a n c bs h (by omega)
  · rcases (show U % 2 = 1 ∨ U % 2 = 0 by omega) with hr | hr
    · exact back_v4t w rb k U S v xs a n c bs h hr (by omega)
    · exact back_v4f w rb k U S v xs a n c bs h hr (by omega)
  · exact back_v6 w rb k U S v xs a n c bs h (by omega)

end

end Go.Proofs.Ytknphfednknajab
