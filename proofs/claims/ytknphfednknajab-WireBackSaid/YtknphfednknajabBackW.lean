/-
  arbaclaw02.back of a value that lies in memory (its bytes may be an empty slice at whatever address).
-/
import Derived.Test.YtknphfednknajabBackV
import Derived.Test.YtknphfednknajabLoose
namespace Go.Proofs.Ytknphfednknajab
open Go.RowKit

set_option maxRecDepth 100000 in
set_option maxHeartbeats 400000 in
theorem same_loose (w : World) (a b : Value) (xs ys : List Nat) (B : Nat) (ha : Reads w a xs) (hb : Loose w b ys B) (hx : ∀ b ∈ xs, b < 256) (hy : ∀ b ∈ ys, b < 256) :
    Calls Try.prog 14 #[a, b] w fun e w' => e = .returned (.bool (decide (xs = ys))) ∧ w = w' := by
  have h1 : (convert 28 9 a).run Try.prog w = .ok (.string (strOf xs)) w := reads_str ha
  have h2 := str_loose hb
  have hi := str_beq hx hy
  generalize strOf xs = A at h1 hi
  generalize strOf ys = C at h2 hi
  have HI := Lib.hid hi; clear hi
  clear ha hb hx hy
  go_enter Try.func14, Try.ntmps14
  go_wp2_with fail
  go_ret
  rw [← HI.out]
  exact ⟨rfl, rfl⟩

set_option maxRecDepth 100000 in
set_option maxHeartbeats 800000 in
theorem rraw_ok (w : World) (rb : Nat) (v : Value) (xs : List Nat) (n : Nat) (h : Rd w rb v xs 0) (hn : n ≤ xs.length) (hl : n ≤ 1000000) :
    Calls Try.prog 48 #[.pointer (some ⟨rb, 0, none⟩), .int .i64 n] w fun e w' => ∃ q v', e = .returned q ∧ Fresh w' w.heap.size q (xs.take n) ∧ Rd w' rb v' (xs.drop n) 0 ∧ v'.ownBlock = v.ownBlock ∧ Kept (fun k => k = rb) w w' := by
  have hrf := readyFor_any w rb v xs 0 n h
  rw [show forErr n 0 = 0 from if_neg (fun h => by omega), show decide ((0 : Int) = 0) = true from rfl] at hrf
  have HRF := Lib.hid hrf; clear hrf
  obtain ⟨va, vc, hvf⟩ := reads_slice h.reads
  obtain ⟨L, hL⟩ : ∃ L, L = xs.length := ⟨_, rfl⟩
  rw [← hL] at hvf hn
  have HL := Lib.hid hL; clear hL
  subst hvf
  have hnl : (n : Int) ≤ (L : Int) := by omega
  clear h
  go_enter Try.func48, Try.ntmps48
  go_wp2_with fail
  refine HRF.out.mono ?_
  rintro e w1 ⟨rfl, hr1, hk1⟩
  have c0 := hr1.cell0
  have HR1 := Lib.hid hr1; have HK1 := Lib.hid hk1; clear hr1 hk1
  go_wp2_with fail
  refine (take_any w1 rb _ xs 0 n HR1.out (by rw [← HL.out]; exact hn)).mono ?_
  rintro e w2 ⟨p, v2, rfl, hr2, hp2, hv2, hpv, hk2⟩
  have HR2 := Lib.hid hr2; have HP2 := Lib.hid hp2; have HV2 := Lib.hid hv2; have HK2 := Lib.hid (HK1.out.trans hk2 (fun _ _ h => h) (fun _ _ h => h) (T := fun k => k = rb))
  clear hr2 hp2 hv2 hpv hk2 c0
  go_wp2_with fail
  refine (clone_any p _ w2 HP2.out (by simp; omega)).mono ?_
  rintro e w3 ⟨q, rfl, hf3, hk3⟩
  have hs := HK2.out.size
  have HF3 := Lib.hid hf3; have HK3 := Lib.hid hk3; clear hf3 hk3
  go_wp2_with fail
  go_ret
  exact ⟨_, v2, rfl, ⟨⟨HF3.out.own.1, by
    rcases HF3.out.own.2 with e | ⟨g, cap, cur, e, hb, r⟩
    · exact Or.inl e
    · exact Or.inr ⟨g, cap, cur, e, Nat.le_trans hs hb, r⟩⟩, fun k hk => Nat.le_trans hs (HF3.out.block k hk)⟩, HR2.out.kept HK3.out (fun h => h) (fun _ _ h => h), HV2.out, HK2.out.trans HK3.out (fun _ _ h => h) (fun _ _ h => h.elim)⟩

/-- What 'back' is given. -/
structure BackInL (w : World) (rb : Nat) (v : Value) (xs : List Nat) (bv : Value) (bs : List Nat) (B : Nat) : Prop where
  rd : Rd w rb v xs 0
  xbyte : ∀ x ∈ xs, x < 256
  b : Loose w bv bs B
  byte : ∀ x ∈ bs, x < 256
  hB : B ≤ rb

theorem BackInL.kept {w w' : World} {rb : Nat} {v : Value} {xs : List Nat} {bv : Value} {bs : List Nat} {B : Nat} (h : BackInL w rb v xs bv bs B) (hk : Kept (fun _ => False) w w') : BackInL w' rb v xs bv bs B :=
  ⟨h.rd.kept hk (fun h => h) (fun _ _ h => h), h.xbyte, h.b.kept hk (fun _ _ h => h), h.byte, h.hB⟩

theorem BackInL.short {w : World} {rb : Nat} {v : Value} {xs : List Nat} {bv cv : Value} {bs : List Nat} {B : Nat} (h : BackInL w rb v xs bv bs B) (hr : Loose w cv (bs.take 300) B) : BackInL w rb v xs cv (bs.take 300) B :=
  ⟨h.rd, h.xbyte, hr, fun x hx => h.byte x (List.mem_of_mem_take hx), h.hB⟩

theorem BackInL.after {w w' : World} {rb : Nat} {v : Value} {xs : List Nat} {bv : Value} {bs : List Nat} {B : Nat} (h : BackInL w rb v xs bv bs B) (hk : Kept (fun k => k = rb) w w') : Loose w' bv bs B :=
  h.b.kept hk fun k hk e => by have := h.hB; omega

/-- The boxed value behind a step of the reader. -/
theorem BackInL.box {w w1 : World} {o : Obj} {rb : Nat} {v : Value} {xs : List Nat} {bv : Value} {bs : List Nat} {B : Nat} (h : BackInL w rb v xs bv bs B) (hk : Kept (fun k => k = rb) (w.alloc o) w1) (i : Nat) : w1.cell? ⟨w.heap.size, i, none⟩ = (w.alloc o).cell? ⟨w.heap.size, i, none⟩ :=
  hk.cell (p := ⟨w.heap.size, i, none⟩) (by simp) (fun e => by
    have := h.rd.lt
    have e2 : w.heap.size = rb := e
    omega)

section
variable (w : World) (rb k U : Nat) (S : Int) (v : Value) (xs : List Nat) (a : Option Addr) (n c : Nat) (bs : List Nat) (B : Nat)

set_option maxRecDepth 100000 in
set_option maxHeartbeats 1600000 in
theorem back_w0 (h : BackInL w rb v xs (.slice a n c) bs B) (hk7 : ((k : Int) % 7) = 0) :
    Calls Try.prog 22 #[.pointer (some ⟨rb, 0, none⟩), .agg #[.int .u8 k, .int .u64 U, .int .i64 S, .slice a n c]] w fun e w' => BackRes w w' rb v (backS 0 U S (bs.take 300) xs) e := by
  have hkA := Kept.alloc (fun _ => False) w (.cells #[.int .u8 k, .int .u64 U, .int .i64 S, .slice a n c] 44)
  have HA := Lib.hid (h.kept hkA); have HKA := Lib.hid hkA; have H := Lib.hid h; clear h hkA
  have b1 : (w.alloc (.cells #[.int .u8 k, .int .u64 U, .int .i64 S, .slice a n c] 44)).cell? ⟨w.heap.size, 1, none⟩ = some (.int .u64 U) := by go_simp
  go_enter Try.func22, Try.ntmps22
  go_wp2_with fail
  refine (short_loose _ _ bs B HA.out.b).mono ?_
  rintro e wA ⟨cv, rfl, hr, rfl⟩
  clear hr
  go_wp2_with fail
  have hlt := H.out.rd.lt
  go_region_held3 (fun w' => w'.cell? ⟨w.heap.size, 1, none⟩ = some (.int .u64 U))
    (first | go_keep)
    ((first | (go_at_call 35; refine (ruint_any _ rb v xs 0 U (by exact HA.out.rd.drew) HA.out.xbyte).mono ?_; rintro e w6 ⟨rfl, v6, hrd6, hrv6, hk6⟩; have HK6 := Lib.hid hk6; have HRV6 := Lib.hid hrv6; have HRD6 := Lib.hid hrd6; have b60 := (hk6.cell (p := ⟨w.heap.size, 1, none⟩) (by simp) (by simp; omega)).trans (by exact b1); clear hk6 hrv6 hrd6)))
  go_wp2_with fail
  go_ret
  exact ⟨by rw [beq_nat]; rfl, v6, HRD6.out, HRV6.out, HKA.out.drew.pre HK6.out⟩

set_option maxRecDepth 100000 in
set_option maxHeartbeats 1600000 in
theorem back_w1 (h : BackInL w rb v xs (.slice a n c) bs B) (hk7 : ((k : Int) % 7) = 1) :
    Calls Try.prog 22 #[.pointer (some ⟨rb, 0, none⟩), .agg #[.int .u8 k, .int .u64 U, .int .i64 S, .slice a n c]] w fun e w' => BackRes w w' rb v (backS 1 U S (bs.take 300) xs) e := by
  have hkA := Kept.alloc (fun _ => False) w (.cells #[.int .u8 k, .int .u64 U, .int .i64 S, .slice a n c] 44)
  have HA := Lib.hid (h.kept hkA); have HKA := Lib.hid hkA; have H := Lib.hid h; clear h hkA
  have b1 : (w.alloc (.cells #[.int .u8 k, .int .u64 U, .int .i64 S, .slice a n c] 44)).cell? ⟨w.heap.size, 2, none⟩ = some (.int .i64 S) := by go_simp
  go_enter Try.func22, Try.ntmps22
  go_wp2_with fail
  refine (short_loose _ _ bs B HA.out.b).mono ?_
  rintro e wA ⟨cv, rfl, hr, rfl⟩
  clear hr
  go_wp2_with fail
  have hlt := H.out.rd.lt
  go_region_held3 (fun w' => w'.cell? ⟨w.heap.size, 2, none⟩ = some (.int .i64 S))
    (first | go_keep)
    ((first | (go_at_call 13; refine (rint_any _ rb v xs 0 S S (by exact HA.out.rd.drew) HA.out.xbyte).mono ?_; rintro e w6 ⟨rfl, v6, hrd6, hrv6, hk6⟩; have HK6 := Lib.hid hk6; have HRV6 := Lib.hid hrv6; have HRD6 := Lib.hid hrd6; have b60 := (hk6.cell (p := ⟨w.heap.size, 2, none⟩) (by simp) (by simp; omega)).trans (by exact b1); clear hk6 hrv6 hrd6)))
  go_wp2_with fail
  go_ret
  exact ⟨rfl, v6, HRD6.out, HRV6.out, HKA.out.drew.pre HK6.out⟩

set_option maxRecDepth 100000 in
set_option maxHeartbeats 1600000 in
theorem back_w2 (h : BackInL w rb v xs (.slice a n c) bs B) (hk7 : ((k : Int) % 7) = 2) :
    Calls Try.prog 22 #[.pointer (some ⟨rb, 0, none⟩), .agg #[.int .u8 k, .int .u64 U, .int .i64 S, .slice a n c]] w fun e w' => BackRes w w' rb v (backS 2 U S (bs.take 300) xs) e := by
  have hkA := Kept.alloc (fun _ => False) w (.cells #[.int .u8 k, .int .u64 U, .int .i64 S, .slice a n c] 44)
  have HA := Lib.hid (h.kept hkA); have HKA := Lib.hid hkA; have H := Lib.hid h; clear h hkA
  have hcl : (bs.take 300).length ≤ 300 := by simp; omega
  obtain ⟨cs, hcs⟩ : ∃ cs, cs = bs.take 300 := ⟨_, rfl⟩
  rw [← hcs] at hcl ⊢
  have HCS := Lib.hid hcs; clear hcs
  go_enter Try.func22, Try.ntmps22
  go_wp2_with fail
  refine (short_loose _ _ bs B HA.out.b).mono ?_
  rintro e wA ⟨cv, rfl, hr, rfl⟩
  have HC := Lib.hid (HA.out.short hr)
  rw [← HCS.out] at HC
  clear hr
  obtain ⟨cva, cvn, hcf⟩ := HC.out.b.form
  obtain ⟨N, hN⟩ : ∃ N, N = cs.length := ⟨_, rfl⟩
  rw [← hN] at hcf hcl
  have HN := Lib.hid hN; clear hN
  subst hcf
  have hs1 := str_loose HC.out.b
  have hs2 := str_loose (HC.out.b.kept (Kept.refl (fun _ => False) _).drew (fun _ _ h => h))
  have hp := rstring_any _ rb v xs 0 N (show Rd _ rb v xs 0 from HA.out.rd.drew) HA.out.xbyte (by show (N : Int) < 9223372036854775808; omega)
  have HP := Lib.hid hp; clear hp
  go_wp2_with fail
  go_region_law ((go_simp; go_at_call 41; refine HP.out.mono ?_; rintro e w6 ⟨rfl, v6, hrd6, hrv6, hk6⟩; have HK6 := Lib.hid hk6; have HRV6 := Lib.hid hrv6; have HRD6 := Lib.hid hrd6; have hs6 := str_loose (HC.out.after (Kept.trans (T := fun k => k = rb) (Kept.refl (fun _ => False) _).drew hk6 (fun _ _ h => h.elim) (fun _ _ h => h))); clear hk6 hrv6 hrd6))
  all_goals
    go_wp2
    go_ret
    have hE : backS 2 U S cs xs = (decide ((pieceS xs N 0).1 = cs), (pieceS xs N 0).2) := by rw [HN.out]; rfl
    rw [hE]
    exact ⟨by rw [← str_beq (pieceS_byte N 0 HA.out.xbyte).1 HC.out.byte]; rfl, v6, HRD6.out, HRV6.out, HKA.out.drew.pre HK6.out⟩

set_option maxRecDepth 100000 in
set_option maxHeartbeats 1600000 in
theorem back_w3 (h : BackInL w rb v xs (.slice a n c) bs B) (hk7 : ((k : Int) % 7) = 3) :
    Calls Try.prog 22 #[.pointer (some ⟨rb, 0, none⟩), .agg #[.int .u8 k, .int .u64 U, .int .i64 S, .slice a n c]] w fun e w' => BackRes w w' rb v (backS 3 U S (bs.take 300) xs) e := by
  have hkA := Kept.alloc (fun _ => False) w (.cells #[.int .u8 k, .int .u64 U, .int .i64 S, .slice a n c] 44)
  have HA := Lib.hid (h.kept hkA); have HKA := Lib.hid hkA; have H := Lib.hid h; clear h hkA
  have hcl : (bs.take 300).length ≤ 300 := by simp; omega
  obtain ⟨cs, hcs⟩ : ∃ cs, cs = bs.take 300 := ⟨_, rfl⟩
  rw [← hcs] at hcl ⊢
  have HCS := Lib.hid hcs; clear hcs
  go_enter Try.func22, Try.ntmps22
  go_wp2_with fail
  refine (short_loose _ _ bs B HA.out.b).mono ?_
  rintro e wA ⟨cv, rfl, hr, rfl⟩
  have HC := Lib.hid (HA.out.short hr)
  rw [← HCS.out] at HC
  clear hr
  obtain ⟨cva, cvn, hcf⟩ := HC.out.b.form
  obtain ⟨N, hN⟩ : ∃ N, N = cs.length := ⟨_, rfl⟩
  rw [← hN] at hcf hcl
  have HN := Lib.hid hN; clear hN
  subst hcf
  have hpl : (pieceS xs N 0).1.length ≤ 300 := by
    by_cases he : (pieceS xs N 0).2.2 = 0
    · have := pieceS_len xs N 0 he; omega
    · rw [(pieceS_err xs N 0 he).1]; simp
  have hp := rbytes_any _ rb v xs 0 N HA.out.rd HA.out.xbyte (by show (N : Int) < 9223372036854775808; omega) (by omega)
  have HP := Lib.hid hp; clear hp
  go_wp2_with fail
  refine HP.out.mono ?_
  rintro e w6 ⟨q, v6, rfl, hf6, hrd6, hrv6, hk6⟩
  have HK6 := Lib.hid hk6; have HRV6 := Lib.hid hrv6; have HRD6 := Lib.hid hrd6; have HF6 := Lib.hid hf6.reads; clear hk6 hrv6 hrd6 hf6
  go_wp2_with fail
  refine (same_loose w6 q _ _ cs B HF6.out (HC.out.after HK6.out) (pieceS_byte N 0 HA.out.xbyte).1 HC.out.byte).mono ?_
  rintro e w7 ⟨rfl, rfl⟩
  go_wp2_with fail
  go_ret
  have hE : backS 3 U S cs xs = (decide ((pieceS xs N 0).1 = cs), (pieceS xs N 0).2) := by rw [HN.out]; rfl
  rw [hE]
  exact ⟨rfl, v6, HRD6.out, HRV6.out, HKA.out.pre HK6.out⟩

set_option maxRecDepth 100000 in
set_option maxHeartbeats 1600000 in
theorem back_w4t (h : BackInL w rb v xs (.slice a n c) bs B) (hr : U % 2 = 1) (hk7 : ((k : Int) % 7) = 4) :
    Calls Try.prog 22 #[.pointer (some ⟨rb, 0, none⟩), .agg #[.int .u8 k, .int .u64 U, .int .i64 S, .slice a n c]] w fun e w' => BackRes w w' rb v (backS 4 U S (bs.take 300) xs) e := by
  have hr2 : (U : Int) % 2 = 1 := by omega
  have hr3 : (U : Int).tmod 2 = 1 := by rw [Int.tmod_eq_emod_of_nonneg (by omega)]; exact hr2
  have hrd : decide (U % 2 = 1) = true := by rw [hr]; rfl
  have HRD := Lib.hid hrd; clear hrd hr
  have hkA := Kept.alloc (fun _ => False) w (.cells #[.int .u8 k, .int .u64 U, .int .i64 S, .slice a n c] 44)
  have HA := Lib.hid (h.kept hkA); have HKA := Lib.hid hkA; have H := Lib.hid h; clear h hkA
  have b1 : (w.alloc (.cells #[.int .u8 k, .int .u64 U, .int .i64 S, .slice a n c] 44)).cell? ⟨w.heap.size, 1, none⟩ = some (.int .u64 U) := by go_simp
  go_enter Try.func22, Try.ntmps22
  go_wp2_with fail
  refine (short_loose _ _ bs B HA.out.b).mono ?_
  rintro e wA ⟨cv, rfl, hr, rfl⟩
  clear hr
  go_wp2_with fail
  have hlt := H.out.rd.lt
  go_region_held3 (fun w' => w'.cell? ⟨w.heap.size, 1, none⟩ = some (.int .u64 U))
    (first | go_keep)
    ((first | (go_at_call 44; refine (rflag_any _ rb v xs 0 (by exact HA.out.rd.drew)).mono ?_; rintro e w6 ⟨rfl, v6, hrd6, hrv6, hk6⟩; have HK6 := Lib.hid hk6; have HRV6 := Lib.hid hrv6; have HRD6 := Lib.hid hrd6; have b60 := (hk6.cell (p := ⟨w.heap.size, 1, none⟩) (by simp) (by simp; omega)).trans (by exact b1); clear hk6 hrv6 hrd6)))
  go_wp2_with fail
  go_ret
  have hE : backS 4 U S (bs.take 300) xs = (decide ((flagS xs 0).1 = true), (flagS xs 0).2) := by rw [← HRD.out]; rfl
  rw [hE]
  exact ⟨by cases (flagS xs 0).1 <;> rfl, v6, HRD6.out, HRV6.out, HKA.out.drew.pre HK6.out⟩

set_option maxRecDepth 100000 in
set_option maxHeartbeats 1600000 in
theorem back_w4f (h : BackInL w rb v xs (.slice a n c) bs B) (hr : U % 2 = 0) (hk7 : ((k : Int) % 7) = 4) :
    Calls Try.prog 22 #[.pointer (some ⟨rb, 0, none⟩), .agg #[.int .u8 k, .int .u64 U, .int .i64 S, .slice a n c]] w fun e w' => BackRes w w' rb v (backS 4 U S (bs.take 300) xs) e := by
  have hr2 : (U : Int) % 2 = 0 := by omega
  have hr3 : (U : Int).tmod 2 = 0 := by rw [Int.tmod_eq_emod_of_nonneg (by omega)]; exact hr2
  have hrd : decide (U % 2 = 1) = false := by rw [hr]; rfl
  have HRD := Lib.hid hrd; clear hrd hr
  have hkA := Kept.alloc (fun _ => False) w (.cells #[.int .u8 k, .int .u64 U, .int .i64 S, .slice a n c] 44)
  have HA := Lib.hid (h.kept hkA); have HKA := Lib.hid hkA; have H := Lib.hid h; clear h hkA
  have b1 : (w.alloc (.cells #[.int .u8 k, .int .u64 U, .int .i64 S, .slice a n c] 44)).cell? ⟨w.heap.size, 1, none⟩ = some (.int .u64 U) := by go_simp
  go_enter Try.func22, Try.ntmps22
  go_wp2_with fail
  refine (short_loose _ _ bs B HA.out.b).mono ?_
  rintro e wA ⟨cv, rfl, hr, rfl⟩
  clear hr
  go_wp2_with fail
  have hlt := H.out.rd.lt
  go_region_held3 (fun w' => w'.cell? ⟨w.heap.size, 1, none⟩ = some (.int .u64 U))
    (first | go_keep)
    ((first | (go_at_call 44; refine (rflag_any _ rb v xs 0 (by exact HA.out.rd.drew)).mono ?_; rintro e w6 ⟨rfl, v6, hrd6, hrv6, hk6⟩; have HK6 := Lib.hid hk6; have HRV6 := Lib.hid hrv6; have HRD6 := Lib.hid hrd6; have b60 := (hk6.cell (p := ⟨w.heap.size, 1, none⟩) (by simp) (by simp; omega)).trans (by exact b1); clear hk6 hrv6 hrd6)))
  go_wp2_with fail
  go_ret
  have hE : backS 4 U S (bs.take 300) xs = (decide ((flagS xs 0).1 = false), (flagS xs 0).2) := by rw [← HRD.out]; rfl
  rw [hE]
  exact ⟨by cases (flagS xs 0).1 <;> rfl, v6, HRD6.out, HRV6.out, HKA.out.drew.pre HK6.out⟩

set_option maxRecDepth 100000 in
set_option maxHeartbeats 1600000 in
theorem back_w6 (h : BackInL w rb v xs (.slice a n c) bs B) (hk7 : ((k : Int) % 7) = 6) :
    Calls Try.prog 22 #[.pointer (some ⟨rb, 0, none⟩), .agg #[.int .u8 k, .int .u64 U, .int .i64 S, .slice a n c]] w fun e w' => BackRes w w' rb v (backS 6 U S (bs.take 300) xs) e := by
  have hkA := Kept.alloc (fun _ => False) w (.cells #[.int .u8 k, .int .u64 U, .int .i64 S, .slice a n c] 44)
  have HA := Lib.hid (h.kept hkA); have HKA := Lib.hid hkA; have H := Lib.hid h; clear h hkA
  have hcl : (bs.take 300).length ≤ 300 := by simp; omega
  obtain ⟨cs, hcs⟩ : ∃ cs, cs = bs.take 300 := ⟨_, rfl⟩
  rw [← hcs] at hcl ⊢
  have HCS := Lib.hid hcs; clear hcs
  go_enter Try.func22, Try.ntmps22
  go_wp2_with fail
  refine (short_loose _ _ bs B HA.out.b).mono ?_
  rintro e wA ⟨cv, rfl, hr, rfl⟩
  have HC := Lib.hid (HA.out.short hr)
  rw [← HCS.out] at HC
  clear hr
  have hp := rset_ok _ rb v xs 4095 HA.out.rd HA.out.xbyte
  have HP := Lib.hid hp; clear hp
  go_wp2_with fail
  refine HP.out.mono ?_
  rintro e w6 ⟨sv, v6, rfl, hs6, hsb6, hrd6, hrv6, hk6⟩
  have HK6 := Lib.hid hk6; have HRV6 := Lib.hid hrv6; have HB6 := Lib.hid (HC.out.after hk6)
  clear hk6 hrv6 hsb6
  go_wp2_with fail
  refine (members_loose w6 _ cs B HB6.out HC.out.byte).mono ?_
  rintro e w7 ⟨lv, rfl, hl7, _, hk7⟩
  go_wp2_with fail
  refine (of_any w7 lv (membersOf cs) hl7).mono ?_
  rintro e w8 ⟨sv8, rfl, hs8, _, hk8⟩
  have hk68 := hk7.then hk8
  have HS68 := Lib.hid (hs6.kept hk68 (fun _ _ h => h))
  have HRD8 := Lib.hid (hrd6.kept hk68 (fun h => h) (fun _ _ h => h))
  have HK68 := Lib.hid hk68
  clear hk68 hk7 hk8 hs6 hrd6 hl7
  go_wp2_with fail
  refine (equal_any w8 sv sv8 _ _ HS68.out hs8).mono ?_
  rintro e w9 ⟨rfl, hk9⟩
  have HK9 := Lib.hid hk9; clear hk9 hs8
  go_wp2_with fail
  go_ret
  exact ⟨rfl, v6, HRD8.out.kept HK9.out (fun h => h) (fun _ _ h => h), HRV6.out, (HKA.out.pre HK6.out).trans (HK68.out.then HK9.out) (fun _ _ h => h) (fun _ _ h => h.elim)⟩

/-- 'back' of any kind but raw bytes. -/
theorem back_loose (h : BackInL w rb v xs (.slice a n c) bs B) (h5 : k % 7 ≠ 5) :
    Calls Try.prog 22 #[.pointer (some ⟨rb, 0, none⟩), .agg #[.int .u8 k, .int .u64 U, .int .i64 S, .slice a n c]] w fun e w' => BackRes w w' rb v (backS (k % 7) U S (bs.take 300) xs) e := by
  have hk : k % 7 = 0 ∨ k % 7 = 1 ∨ k % 7 = 2 ∨ k % 7 = 3 ∨ k % 7 = 4 ∨ k % 7 = 6 := by omega
  rcases hk with hk | hk | hk | hk | hk | hk
  all_goals rw [hk]
  · exact back_w0 w rb k U S v xs a n c bs B h (by omega)
  · exact back_w1 w rb k U S v xs a n c bs B h (by omega)
  · exact back_w2 w rb k U S v xs a n c bs B h (by omega)
  · exact back_w3 w rb k U S v xs a n c bs B h (by omega)
  · rcases (show U % 2 = 1 ∨ U % 2 = 0 by omega) with hr | hr
    · exact back_w4t w rb k U S v xs a n c bs B h hr (by omega)
    · exact back_w4f w rb k U S v xs a n c bs B h hr (by omega)
  · exact back_w6 w rb k U S v xs a n c bs B h (by omega)

end

end Go.Proofs.Ytknphfednknajab
