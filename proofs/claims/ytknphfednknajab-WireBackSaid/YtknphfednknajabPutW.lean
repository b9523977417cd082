/-
  arbaclaw02.put of a value that lies in memory (its bytes may be an empty slice at whatever address).
-/
import Derived.Test.YtknphfednknajabPutV
import Derived.Test.YtknphfednknajabLoose
namespace Go.Proofs.Ytknphfednknajab
open Go.RowKit

theorem Loose.mono {w : World} {v : Value} {xs : List Nat} {B B' : Nat} (h : Loose w v xs B) (hB : B ≤ B') : Loose w v xs B' := by
  rcases h with ⟨h, hb⟩ | h
  · exact Or.inl ⟨h, fun j hj => Nat.lt_of_lt_of_le (hb j hj) hB⟩
  · exact Or.inr h

/-- What 'put' leaves. -/
def PutResL (w w' : World) (wb : Nat) (u : Value) (B : Nat) (ys E : List Nat) (q : Value) : Prop :=
  ∃ u', Wr w' wb u' B (ys ++ E) ∧ WStep w w' wb u u' ∧ Loose w' q E w'.heap.size

theorem PutResL.mk2 {w wA w1 w2 : World} {wb : Nat} {u u1 q : Value} {B : Nat} {ys E : List Nat} (h0 : Kept (fun _ => False) w wA) (hw : Wr w1 wb u1 B (ys ++ E)) (hs : WStep wA w1 wb u u1) (hk : Kept (fun _ => False) w1 w2) (hq : Loose w2 q E w2.heap.size) :
    PutResL w w2 wb u B ys E q :=
  ⟨u1, hw.kept hk (fun h => h) (fun _ _ h => h), (hs.pre h0).post hk, hq⟩

theorem PutResL.mk {w wA w1 w2 : World} {wb : Nat} {u u1 q : Value} {B : Nat} {ys E : List Nat} (h0 : Kept (fun _ => False) w wA) (hw : Wr w1 wb u1 B (ys ++ E)) (hs : WStep wA w1 wb u u1) (hk : Kept (fun _ => False) w1 w2) (hq : Reads w2 q E) :
    PutResL w w2 wb u B ys E q := PutResL.mk2 h0 hw hs hk (Or.inl ⟨hq, hq.lt⟩)

/-- What 'put' is given. -/
structure PutInL (w : World) (wb : Nat) (u : Value) (B : Nat) (ys : List Nat) (bv : Value) (bs : List Nat) : Prop where
  wr : Wr w wb u B ys
  hl : ys.length ≤ 1000000
  b : Loose w bv bs B
  byte : ∀ x ∈ bs, x < 256

theorem PutInL.kept {w w' : World} {wb : Nat} {u : Value} {B : Nat} {ys : List Nat} {bv : Value} {bs : List Nat} (h : PutInL w wb u B ys bv bs) (hk : Kept (fun _ => False) w w') : PutInL w' wb u B ys bv bs :=
  ⟨h.wr.kept hk (fun h => h) (fun _ _ h => h), h.hl, h.b.kept hk (fun _ _ h => h), h.byte⟩

theorem PutInL.hB {w : World} {wb : Nat} {u : Value} {B : Nat} {ys : List Nat} {bv : Value} {bs : List Nat} (h : PutInL w wb u B ys bv bs) : B ≤ w.heap.size := Nat.le_trans h.wr.base (Nat.le_of_lt h.wr.lt)

/-- The bytes behind a step of the writer. -/
theorem PutInL.after {w w' : World} {wb : Nat} {u u' : Value} {B : Nat} {ys : List Nat} {bv : Value} {bs : List Nat} (h : PutInL w wb u B ys bv bs) (hs : WStep w w' wb u u') : Loose w' bv bs B :=
  h.b.kept hs.kept fun _ hk => h.wr.low hk

/-- Behind 'short'. -/
theorem PutInL.short {w : World} {wb : Nat} {u : Value} {B : Nat} {ys : List Nat} {bv cv : Value} {bs : List Nat} (h : PutInL w wb u B ys bv bs) (hr : Loose w cv (bs.take 300) B) : PutInL w wb u B ys cv (bs.take 300) :=
  ⟨h.wr, h.hl, hr, fun x hx => h.byte x (List.mem_of_mem_take hx)⟩

/-- The boxed value behind a step of the writer. -/
theorem PutInL.box {w w1 : World} {o : Obj} {wb : Nat} {u u1 : Value} {B : Nat} {ys : List Nat} {bv : Value} {bs : List Nat} (h : PutInL w wb u B ys bv bs) (hs : WStep (w.alloc o) w1 wb u u1) (i : Nat) : w1.cell? ⟨w.heap.size, i, none⟩ = (w.alloc o).cell? ⟨w.heap.size, i, none⟩ :=
  hs.kept.cell (p := ⟨w.heap.size, i, none⟩) (by simp) (by
    rintro (e | e)
    · have := h.wr.lt
      have e2 : w.heap.size = wb := e
      omega
    · have e2 : u.ownBlock = some w.heap.size := e
      have := (h.wr.own.lt _ e2).2
      omega)

section
variable (w : World) (wb k U : Nat) (S : Int) (u : Value) (B : Nat) (ys : List Nat) (a : Option Addr) (n c : Nat) (bs : List Nat)

set_option maxRecDepth 100000 in
set_option maxHeartbeats 1600000 in
theorem put_w0 (h : PutInL w wb u B ys (.slice a n c) bs) (hU : Hid (U < 18446744073709551616)) (hk7 : ((k : Int) % 7) = 0) :
    Calls Try.prog 21 #[.pointer (some ⟨wb, 0, none⟩), .agg #[.int .u8 k, .int .u64 U, .int .i64 S, .slice a n c]] w fun e w' => ∃ q, e = .returned q ∧ PutResL w w' wb u B ys (encV 0 U S (bs.take 300)) q := by
  have hkA := Kept.alloc (fun _ => False) w (.cells #[.int .u8 k, .int .u64 U, .int .i64 S, .slice a n c] 44)
  have HA := Lib.hid (h.kept hkA); have HKA := Lib.hid hkA; have H := Lib.hid h; clear h hkA
  go_enter Try.func21, Try.ntmps21
  go_wp2_with fail
  refine (short_loose _ _ bs B HA.out.b).mono ?_
  rintro e wA ⟨cv, rfl, hr, rfl⟩
  clear hr
  go_wp2_with fail
  refine (uint_any U _ wb u B ys HA.out.wr (by have := HA.out.hl; omega) hU).mono ?_
  rintro e w1 ⟨rfl, u1, hw1, hs1⟩
  have c1 : w1.cell? ⟨w.heap.size, 1, none⟩ = some (.int .u64 U) := (H.out.box hs1 1).trans (by go_simp)
  have HW := Lib.hid hw1; have HS := Lib.hid hs1; clear hw1 hs1
  go_wp2_with fail
  refine (put_any U w1 hU).mono ?_
  rintro e w2 ⟨q, rfl, hf, hk2⟩
  have HR := Lib.hid (PutResL.mk HKA.out HW.out HS.out hk2 hf.reads)
  clear hf hk2 c1
  go_wp2_with fail
  go_ret
  exact ⟨_, rfl, HR.out⟩

set_option maxRecDepth 100000 in
set_option maxHeartbeats 1600000 in
theorem put_w1 (h : PutInL w wb u B ys (.slice a n c) bs) (hS : Hid (-9223372036854775808 ≤ S ∧ S < 9223372036854775808)) (hk7 : ((k : Int) % 7) = 1) :
    Calls Try.prog 21 #[.pointer (some ⟨wb, 0, none⟩), .agg #[.int .u8 k, .int .u64 U, .int .i64 S, .slice a n c]] w fun e w' => ∃ q, e = .returned q ∧ PutResL w w' wb u B ys (encV 1 U S (bs.take 300)) q := by
  have hkA := Kept.alloc (fun _ => False) w (.cells #[.int .u8 k, .int .u64 U, .int .i64 S, .slice a n c] 44)
  have HA := Lib.hid (h.kept hkA); have HKA := Lib.hid hkA; have H := Lib.hid h; clear h hkA
  go_enter Try.func21, Try.ntmps21
  go_wp2_with fail
  refine (short_loose _ _ bs B HA.out.b).mono ?_
  rintro e wA ⟨cv, rfl, hr, rfl⟩
  clear hr
  go_wp2_with fail
  refine (int_any S _ wb u B ys HA.out.wr (by have := HA.out.hl; omega) hS).mono ?_
  rintro e w1 ⟨rfl, u1, hw1, hs1⟩
  have c1 : w1.cell? ⟨w.heap.size, 2, none⟩ = some (.int .i64 S) := (H.out.box hs1 2).trans (by go_simp)
  have HW := Lib.hid hw1; have HS := Lib.hid hs1; clear hw1 hs1
  go_wp2_with fail
  refine (putInt_any S w1 hS).mono ?_
  rintro e w2 ⟨q, rfl, hf, hk2⟩
  have HR := Lib.hid (PutResL.mk HKA.out HW.out HS.out hk2 hf.reads)
  clear hf hk2 c1
  go_wp2_with fail
  go_ret
  exact ⟨_, rfl, HR.out⟩

set_option maxRecDepth 100000 in
set_option maxHeartbeats 1600000 in
theorem put_w2 (h : PutInL w wb u B ys (.slice a n c) bs) (hk7 : ((k : Int) % 7) = 2) :
    Calls Try.prog 21 #[.pointer (some ⟨wb, 0, none⟩), .agg #[.int .u8 k, .int .u64 U, .int .i64 S, .slice a n c]] w fun e w' => ∃ q, e = .returned q ∧ PutResL w w' wb u B ys (encV 2 U S (bs.take 300)) q := by
  have hkA := Kept.alloc (fun _ => False) w (.cells #[.int .u8 k, .int .u64 U, .int .i64 S, .slice a n c] 44)
  have HA := Lib.hid (h.kept hkA); have HKA := Lib.hid hkA; have H := Lib.hid h; clear h hkA
  have hcl : (bs.take 300).length ≤ 300 := by simp; omega
  obtain ⟨cs, hcs⟩ : ∃ cs, cs = bs.take 300 := ⟨_, rfl⟩
  rw [← hcs] at hcl ⊢
  have HCS := Lib.hid hcs; clear hcs
  go_enter Try.func21, Try.ntmps21
  go_wp2_with fail
  refine (short_loose _ _ bs B HA.out.b).mono ?_
  rintro e wA ⟨cv, rfl, hr, rfl⟩
  have HC := Lib.hid (HA.out.short hr)
  rw [← HCS.out] at HC
  clear hr
  have hstr := str_loose HC.out.b
  have hsz := strOf_size cs
  have hby := strOf_bytes HC.out.byte
  generalize strOf cs = s at hstr hsz hby
  have HSZ := Lib.hid hsz; have HBY := Lib.hid hby; clear hsz hby
  go_wp2_with fail
  refine (string_any s _ wb u B ys HA.out.wr (by have := HA.out.hl; omega) (by have := HSZ.out; omega) HA.out.hB).mono ?_
  rintro e w1 ⟨rfl, u1, hw1, hs1⟩
  rw [HSZ.out, HBY.out] at hw1
  have HW := Lib.hid hw1; have HS := Lib.hid hs1; clear hw1 hs1 hstr
  go_wp2_with fail
  refine (putbytes_loose cv cs w1 B (HC.out.after HS.out) (by omega)).mono ?_
  rintro e w2 ⟨q, rfl, hf, hk2⟩
  have HR := Lib.hid (PutResL.mk HKA.out HW.out HS.out hk2 hf.reads)
  clear hf hk2
  go_wp2_with fail
  go_ret
  exact ⟨_, rfl, HR.out⟩

set_option maxRecDepth 100000 in
set_option maxHeartbeats 1600000 in
theorem put_w3 (h : PutInL w wb u B ys (.slice a n c) bs) (hk7 : ((k : Int) % 7) = 3) :
    Calls Try.prog 21 #[.pointer (some ⟨wb, 0, none⟩), .agg #[.int .u8 k, .int .u64 U, .int .i64 S, .slice a n c]] w fun e w' => ∃ q, e = .returned q ∧ PutResL w w' wb u B ys (encV 3 U S (bs.take 300)) q := by
  have hkA := Kept.alloc (fun _ => False) w (.cells #[.int .u8 k, .int .u64 U, .int .i64 S, .slice a n c] 44)
  have HA := Lib.hid (h.kept hkA); have HKA := Lib.hid hkA; have H := Lib.hid h; clear h hkA
  have hcl : (bs.take 300).length ≤ 300 := by simp; omega
  obtain ⟨cs, hcs⟩ : ∃ cs, cs = bs.take 300 := ⟨_, rfl⟩
  rw [← hcs] at hcl ⊢
  have HCS := Lib.hid hcs; clear hcs
  go_enter Try.func21, Try.ntmps21
  go_wp2_with fail
  refine (short_loose _ _ bs B HA.out.b).mono ?_
  rintro e wA ⟨cv, rfl, hr, rfl⟩
  have HC := Lib.hid (HA.out.short hr)
  rw [← HCS.out] at HC
  clear hr
  go_wp2_with fail
  refine (wbytes_loose cv cs _ wb u B ys HA.out.wr HC.out.b (by have := HA.out.hl; omega) (by omega) HA.out.hB).mono ?_
  rintro e w1 ⟨rfl, u1, hw1, hs1⟩
  have HW := Lib.hid hw1; have HS := Lib.hid hs1; clear hw1 hs1
  go_wp2_with fail
  refine (putbytes_loose cv cs w1 B (HC.out.after HS.out) (by omega)).mono ?_
  rintro e w2 ⟨q, rfl, hf, hk2⟩
  have HR := Lib.hid (PutResL.mk HKA.out HW.out HS.out hk2 hf.reads)
  clear hf hk2
  go_wp2_with fail
  go_ret
  exact ⟨_, rfl, HR.out⟩

set_option maxRecDepth 100000 in
set_option maxHeartbeats 1600000 in
theorem put_w4t (h : PutInL w wb u B ys (.slice a n c) bs) (hr : U % 2 = 1) (hk7 : ((k : Int) % 7) = 4) :
    Calls Try.prog 21 #[.pointer (some ⟨wb, 0, none⟩), .agg #[.int .u8 k, .int .u64 U, .int .i64 S, .slice a n c]] w fun e w' => ∃ q, e = .returned q ∧ PutResL w w' wb u B ys (encV 4 U S (bs.take 300)) q := by
  rw [encV_flag U S _ true (by rw [hr]; rfl)]
  have hr2 : (U : Int) % 2 = 1 := by omega
  have hkA := Kept.alloc (fun _ => False) w (.cells #[.int .u8 k, .int .u64 U, .int .i64 S, .slice a n c] 44)
  have HA := Lib.hid (h.kept hkA); have HKA := Lib.hid hkA; have H := Lib.hid h; clear h hkA hr
  go_enter Try.func21, Try.ntmps21
  go_wp2_with fail
  refine (short_loose _ _ bs B HA.out.b).mono ?_
  rintro e wA ⟨cv, rfl, hr, rfl⟩
  clear hr
  go_wp2_with fail
  refine (wflag_any true _ wb u B ys HA.out.wr (by have := HA.out.hl; omega)).mono ?_
  rintro e w1 ⟨rfl, u1, hw1, hs1⟩
  have c1 : w1.cell? ⟨w.heap.size, 1, none⟩ = some (.int .u64 U) := (H.out.box hs1 1).trans (by go_simp)
  have HW := Lib.hid hw1; have HS := Lib.hid hs1; clear hw1 hs1
  go_wp2_with fail
  refine (putflag_any true w1).mono ?_
  rintro e w2 ⟨q, rfl, hf, hk2⟩
  have HR := Lib.hid (PutResL.mk HKA.out HW.out HS.out hk2 hf.reads)
  clear hf hk2 c1
  go_wp2_with fail
  go_ret
  exact ⟨_, rfl, HR.out⟩

set_option maxRecDepth 100000 in
set_option maxHeartbeats 1600000 in
theorem put_w4f (h : PutInL w wb u B ys (.slice a n c) bs) (hr : U % 2 = 0) (hk7 : ((k : Int) % 7) = 4) :
    Calls Try.prog 21 #[.pointer (some ⟨wb, 0, none⟩), .agg #[.int .u8 k, .int .u64 U, .int .i64 S, .slice a n c]] w fun e w' => ∃ q, e = .returned q ∧ PutResL w w' wb u B ys (encV 4 U S (bs.take 300)) q := by
  rw [encV_flag U S _ false (by rw [hr]; rfl)]
  have hr2 : (U : Int) % 2 = 0 := by omega
  have hkA := Kept.alloc (fun _ => False) w (.cells #[.int .u8 k, .int .u64 U, .int .i64 S, .slice a n c] 44)
  have HA := Lib.hid (h.kept hkA); have HKA := Lib.hid hkA; have H := Lib.hid h; clear h hkA hr
  go_enter Try.func21, Try.ntmps21
  go_wp2_with fail
  refine (short_loose _ _ bs B HA.out.b).mono ?_
  rintro e wA ⟨cv, rfl, hr, rfl⟩
  clear hr
  go_wp2_with fail
  refine (wflag_any false _ wb u B ys HA.out.wr (by have := HA.out.hl; omega)).mono ?_
  rintro e w1 ⟨rfl, u1, hw1, hs1⟩
  have c1 : w1.cell? ⟨w.heap.size, 1, none⟩ = some (.int .u64 U) := (H.out.box hs1 1).trans (by go_simp)
  have HW := Lib.hid hw1; have HS := Lib.hid hs1; clear hw1 hs1
  go_wp2_with fail
  refine (putflag_any false w1).mono ?_
  rintro e w2 ⟨q, rfl, hf, hk2⟩
  have HR := Lib.hid (PutResL.mk HKA.out HW.out HS.out hk2 hf.reads)
  clear hf hk2 c1
  go_wp2_with fail
  go_ret
  exact ⟨_, rfl, HR.out⟩

set_option maxRecDepth 100000 in
set_option maxHeartbeats 1600000 in
theorem put_w5 (h : PutInL w wb u B ys (.slice a n c) bs) (hk7 : ((k : Int) % 7) = 5) :
    Calls Try.prog 21 #[.pointer (some ⟨wb, 0, none⟩), .agg #[.int .u8 k, .int .u64 U, .int .i64 S, .slice a n c]] w fun e w' => ∃ q, e = .returned q ∧ PutResL w w' wb u B ys (encV 5 U S (bs.take 300)) q := by
  have hkA := Kept.alloc (fun _ => False) w (.cells #[.int .u8 k, .int .u64 U, .int .i64 S, .slice a n c] 44)
  have HA := Lib.hid (h.kept hkA); have HKA := Lib.hid hkA; have H := Lib.hid h; clear h hkA
  have hcl : (bs.take 300).length ≤ 300 := by simp; omega
  obtain ⟨cs, hcs⟩ : ∃ cs, cs = bs.take 300 := ⟨_, rfl⟩
  rw [← hcs] at hcl ⊢
  have HCS := Lib.hid hcs; clear hcs
  go_enter Try.func21, Try.ntmps21
  go_wp2_with fail
  refine (short_loose _ _ bs B HA.out.b).mono ?_
  rintro e wA ⟨cv, rfl, hr, rfl⟩
  have HC := Lib.hid (HA.out.short hr)
  rw [← HCS.out] at HC
  clear hr
  go_wp2_with fail
  refine (raw_loose cv cs _ wb u B ys HA.out.wr HC.out.b (by have := HA.out.hl; omega) HA.out.hB).mono ?_
  rintro e w1 ⟨rfl, u1, hw1, hs1⟩
  have HR := Lib.hid (PutResL.mk2 HKA.out hw1 hs1 (Kept.refl _ _) ((HC.out.after hs1).mono (Nat.le_trans HC.out.hB hs1.kept.size)))
  clear hw1 hs1
  go_wp2_with fail
  go_ret
  exact ⟨_, rfl, HR.out⟩

set_option maxRecDepth 100000 in
set_option maxHeartbeats 1600000 in
theorem put_w6 (h : PutInL w wb u B ys (.slice a n c) bs) (hk7 : ((k : Int) % 7) = 6) :
    Calls Try.prog 21 #[.pointer (some ⟨wb, 0, none⟩), .agg #[.int .u8 k, .int .u64 U, .int .i64 S, .slice a n c]] w fun e w' => ∃ q, e = .returned q ∧ PutResL w w' wb u B ys (encV 6 U S (bs.take 300)) q := by
  have hkA := Kept.alloc (fun _ => False) w (.cells #[.int .u8 k, .int .u64 U, .int .i64 S, .slice a n c] 44)
  have HA := Lib.hid (h.kept hkA); have HKA := Lib.hid hkA; have H := Lib.hid h; clear h hkA
  have hcl : (bs.take 300).length ≤ 300 := by simp; omega
  obtain ⟨cs, hcs⟩ : ∃ cs, cs = bs.take 300 := ⟨_, rfl⟩
  rw [← hcs] at hcl ⊢
  have HCS := Lib.hid hcs; clear hcs
  go_enter Try.func21, Try.ntmps21
  go_wp2_with fail
  refine (short_loose _ _ bs B HA.out.b).mono ?_
  rintro e wA ⟨cv, rfl, hr, rfl⟩
  have HC := Lib.hid (HA.out.short hr)
  rw [← HCS.out] at HC
  clear hr
  have hin := membersOf_in HC.out.byte
  have HIN := Lib.hid hin; clear hin
  go_wp2_with fail
  refine (members_loose _ cv cs B HC.out.b HC.out.byte).mono ?_
  rintro e w1 ⟨lv, rfl, hl1, _, hk1⟩
  go_wp2_with fail
  refine (of_any w1 lv (membersOf cs) hl1).mono ?_
  rintro e w2 ⟨sv, rfl, hs2, _, hk2⟩
  have HA2 := Lib.hid (HC.out.kept (hk1.then hk2))
  have HK2 := Lib.hid (HKA.out.then (hk1.then hk2))
  clear hl1 hk1 hk2
  go_wp2_with fail
  refine (wset_any sv _ (maskOf_small _) w2 wb u B ys HA2.out.wr hs2 (by have := HA2.out.hl; omega) HA2.out.hB).mono ?_
  rintro e w3 ⟨rfl, u3, hw3, hs3⟩
  have HW := Lib.hid hw3; have HS := Lib.hid hs3; clear hw3 hs3 hs2
  go_wp2_with fail
  refine (members_loose w3 cv cs B (HA2.out.after HS.out) HC.out.byte).mono ?_
  rintro e w4 ⟨lv4, rfl, hl4, _, hk4⟩
  go_wp2_with fail
  refine (putset_any w4 lv4 (membersOf cs) hl4 HIN.out).mono ?_
  rintro e w5 ⟨q, rfl, hf, hk5⟩
  have HR := Lib.hid (PutResL.mk HK2.out HW.out HS.out (hk4.then hk5) hf.reads)
  clear hf hk4 hk5 hl4
  go_wp2_with fail
  go_ret
  exact ⟨_, rfl, HR.out⟩

/-- 'put' of any value. -/
theorem put_loose (h : PutInL w wb u B ys (.slice a n c) bs) (hU : U < 18446744073709551616) (hS : -9223372036854775808 ≤ S ∧ S < 9223372036854775808) :
    Calls Try.prog 21 #[.pointer (some ⟨wb, 0, none⟩), .agg #[.int .u8 k, .int .u64 U, .int .i64 S, .slice a n c]] w fun e w' => ∃ q, e = .returned q ∧ PutResL w w' wb u B ys (encV (k % 7) U S (bs.take 300)) q := by
  have hk : k % 7 = 0 ∨ k % 7 = 1 ∨ k % 7 = 2 ∨ k % 7 = 3 ∨ k % 7 = 4 ∨ k % 7 = 5 ∨ k % 7 = 6 := by omega
  rcases hk with hk | hk | hk | hk | hk | hk | hk
  all_goals rw [hk]
  · exact put_w0 w wb k U S u B ys a n c bs h hU (by omega)
  · exact put_w1 w wb k U S u B ys a n c bs h hS (by omega)
  · exact put_w2 w wb k U S u B ys a n c bs h (by omega)
  · exact put_w3 w wb k U S u B ys a n c bs h (by omega)
  · rcases (show U % 2 = 1 ∨ U % 2 = 0 by omega) with hr | hr
    · exact put_w4t w wb k U S u B ys a n c bs h hr (by omega)
    · exact put_w4f w wb k U S u B ys a n c bs h hr (by omega)
  · exact put_w5 w wb k U S u B ys a n c bs h (by omega)
  · exact put_w6 w wb k U S u B ys a n c bs h (by omega)

end

end Go.Proofs.Ytknphfednknajab
