/-
  arbaclaw02.put: it writes any value, and returns its encoding.
-/
import Derived.Test.YtljjhdfackicpaaDoorArg
import Derived.Test.YtljjhdfackicpaaDoorMembers
import Derived.Test.YtljjhdfackicpaaDoorRefSet
import Derived.Test.YtljjhdfackicpaaDoorPutInt
namespace Go.Proofs.YtljjhdfackicpaaDoor
open Go.RowKit

/-- The encoding of a value: the kind modulo 7, the number, the number with a sign, the bytes (300 at the most). -/
def encV (c U : Nat) (S : Int) (bs : List Nat) : List Nat :=
  if c = 0 then enc U else if c = 1 then enc (zz S) else if c = 2 ∨ c = 3 then enc bs.length ++ bs else if c = 4 then encFlag (decide (U % 2 = 1)) else if c = 5 then bs
  else enc (bytesOf (maskOf (membersOf bs))).length ++ bytesOf (maskOf (membersOf bs))

/-- What 'put' leaves. -/
def PutRes (w w' : World) (wb : Nat) (u : Value) (B : Nat) (ys E : List Nat) (q : Value) : Prop :=
  ∃ u', Wr w' wb u' B (ys ++ E) ∧ WStep w w' wb u u' ∧ Reads w' q E

theorem WStep.pre {a b c : World} {wb : Nat} {u v : Value} (h : Kept (fun _ => False) a b) (k : WStep b c wb u v) : WStep a c wb u v :=
  ⟨h.trans k.kept (fun _ _ h => h.elim) (fun _ _ h => h), by
    rcases k.row with e | e
    · exact Or.inl e
    · exact Or.inr fun j hj => Nat.le_trans h.size (e j hj)⟩

theorem WStep.post {a b c : World} {wb : Nat} {u v : Value} (h : WStep a b wb u v) (k : Kept (fun _ => False) b c) : WStep a c wb u v :=
  ⟨h.kept.trans k (fun _ _ h => h) (fun _ _ h => h.elim), h.row⟩

/-- Behind the writer's step and what the reference makes of the value. -/
theorem PutRes.mk {w wA w1 w2 : World} {wb : Nat} {u u1 q : Value} {B : Nat} {ys E : List Nat} (h0 : Kept (fun _ => False) w wA) (hw : Wr w1 wb u1 B (ys ++ E)) (hs : WStep wA w1 wb u u1) (hk : Kept (fun _ => False) w1 w2) (hq : Reads w2 q E) :
    PutRes w w2 wb u B ys E q :=
  ⟨u1, hw.kept hk (fun h => h) (fun _ _ h => h), (hs.pre h0).post hk, hq⟩

/-- The blocks that a writer's step may turn are not below its base. -/
theorem Wr.low {a : World} {wb : Nat} {u : Value} {B : Nat} {ys : List Nat} (hw : Wr a wb u B ys) {k : Nat} (hk : k < B) : ¬ (k = wb ∨ blk u k) := by
  rintro (e | e)
  · have := hw.base; omega
  · have := (hw.own.lt k e).1; omega

/-- What 'put' is given. -/
structure PutIn (w : World) (wb : Nat) (u : Value) (B : Nat) (ys : List Nat) (bv : Value) (bs : List Nat) : Prop where
  wr : Wr w wb u B ys
  hl : ys.length ≤ 1000000
  b : Reads w bv bs
  byte : ∀ x ∈ bs, x < 256
  low : ∀ j, bv.ownBlock = some j → j < B

theorem PutIn.kept {w w' : World} {wb : Nat} {u : Value} {B : Nat} {ys : List Nat} {bv : Value} {bs : List Nat} (h : PutIn w wb u B ys bv bs) (hk : Kept (fun _ => False) w w') : PutIn w' wb u B ys bv bs :=
  ⟨h.wr.kept hk (fun h => h) (fun _ _ h => h), h.hl, h.b.kept hk (fun _ _ h => h), h.byte, h.low⟩

theorem PutIn.hB {w : World} {wb : Nat} {u : Value} {B : Nat} {ys : List Nat} {bv : Value} {bs : List Nat} (h : PutIn w wb u B ys bv bs) : B ≤ w.heap.size := Nat.le_trans h.wr.base (Nat.le_of_lt h.wr.lt)

/-- The bytes behind a step of the writer. -/
theorem PutIn.after {w w' : World} {wb : Nat} {u u' : Value} {B : Nat} {ys : List Nat} {bv : Value} {bs : List Nat} (h : PutIn w wb u B ys bv bs) (hs : WStep w w' wb u u') : Reads w' bv bs :=
  h.b.kept hs.kept fun k hk => h.wr.low (h.low k hk)

/-- Behind 'short'. -/
theorem PutIn.short {w : World} {wb : Nat} {u : Value} {B : Nat} {ys : List Nat} {bv cv : Value} {bs : List Nat} (h : PutIn w wb u B ys bv bs) (hr : Reads w cv (bs.take 300)) (ho : cv.ownBlock = bv.ownBlock) : PutIn w wb u B ys cv (bs.take 300) :=
  ⟨h.wr, h.hl, hr, fun x hx => h.byte x (List.mem_of_mem_take hx), fun j hj => h.low j (by rw [← ho]; exact hj)⟩

/-- The boxed value behind a step of the writer. -/
theorem PutIn.box {w w1 : World} {o : Obj} {wb : Nat} {u u1 : Value} {B : Nat} {ys : List Nat} {bv : Value} {bs : List Nat} (h : PutIn w wb u B ys bv bs) (hs : WStep (w.alloc o) w1 wb u u1) (i : Nat) : w1.cell? ⟨w.heap.size, i, none⟩ = (w.alloc o).cell? ⟨w.heap.size, i, none⟩ :=
  hs.kept.cell (p := ⟨w.heap.size, i, none⟩) (by simp) (by
    rintro (e | e)
    · have := h.wr.lt
      have e2 : w.heap.size = wb := e
      omega
    · have e2 : u.ownBlock = some w.heap.size := e
      have := (h.wr.own.lt _ e2).2
      omega)

section
variable (w : World) (wb k U : Nat) (S : Int) (u : Value) (B : Nat) (ys : List Nat) (a : Option Addr) (n c : Nat) (bs : List Nat)

set_option maxRecDepth 100000 in
set_option maxHeartbeats 1600000 in
theorem put_v0 (h : PutIn w wb u B ys (.slice a n c) bs) (hU : Hid (U < 18446744073709551616)) (hk7 : ((k : Int) % 7) = 0) :
    Calls Tryd.prog 53 #[.pointer (some ⟨wb, 0, none⟩), .agg #[.int .u8 k, .int .u64 U, .int .i64 S, .slice a n c]] w fun e w' => ∃ q, e = .returned q ∧ PutRes w w' wb u B ys (encV 0 U S (bs.take 300)) q := by
  have hkA := Kept.alloc (fun _ => False) w (.cells #[.int .u8 k, .int .u64 U, .int .i64 S, .slice a n c] 78)
  have HA := Lib.hid (h.kept hkA); have HKA := Lib.hid hkA; have H := Lib.hid h; clear h hkA
  go_enter Tryd.func53, Tryd.ntmps53
  go_wp2_with fail
  refine (short_any _ _ bs HA.out.b).mono ?_
  rintro e wA ⟨cv, rfl, hr, ho, rfl⟩
  clear hr ho
  go_wp2_with fail
  refine (uint_any U _ wb u B ys HA.out.wr (by have := HA.out.hl; omega) hU).mono ?_
  rintro e w1 ⟨rfl, u1, hw1, hs1⟩
  have c1 : w1.cell? ⟨w.heap.size, 1, none⟩ = some (.int .u64 U) := (H.out.box hs1 1).trans (by go_simp)
  have HW := Lib.hid hw1; have HS := Lib.hid hs1; clear hw1 hs1
  go_wp2_with fail
  refine (put_any U w1 hU).mono ?_
  rintro e w2 ⟨q, rfl, hf, hk2⟩
  have HR := Lib.hid (PutRes.mk HKA.out HW.out HS.out hk2 hf.reads)
  clear hf hk2 c1
  go_wp2_with fail
  go_ret
  exact ⟨_, rfl, HR.out⟩

set_option maxRecDepth 100000 in
set_option maxHeartbeats 1600000 in
theorem put_v1 (h : PutIn w wb u B ys (.slice a n c) bs) (hS : Hid (-9223372036854775808 ≤ S ∧ S < 9223372036854775808)) (hk7 : ((k : Int) % 7) = 1) :
    Calls Tryd.prog 53 #[.pointer (some ⟨wb, 0, none⟩), .agg #[.int .u8 k, .int .u64 U, .int .i64 S, .slice a n c]] w fun e w' => ∃ q, e = .returned q ∧ PutRes w w' wb u B ys (encV 1 U S (bs.take 300)) q := by
  have hkA := Kept.alloc (fun _ => False) w (.cells #[.int .u8 k, .int .u64 U, .int .i64 S, .slice a n c] 78)
  have HA := Lib.hid (h.kept hkA); have HKA := Lib.hid hkA; have H := Lib.hid h; clear h hkA
  go_enter Tryd.func53, Tryd.ntmps53
  go_wp2_with fail
  refine (short_any _ _ bs HA.out.b).mono ?_
  rintro e wA ⟨cv, rfl, hr, ho, rfl⟩
  clear hr ho
  go_wp2_with fail
  refine (int_any S _ wb u B ys HA.out.wr (by have := HA.out.hl; omega) hS).mono ?_
  rintro e w1 ⟨rfl, u1, hw1, hs1⟩
  have c1 : w1.cell? ⟨w.heap.size, 2, none⟩ = some (.int .i64 S) := (H.out.box hs1 2).trans (by go_simp)
  have HW := Lib.hid hw1; have HS := Lib.hid hs1; clear hw1 hs1
  go_wp2_with fail
  refine (putInt_any S w1 hS).mono ?_
  rintro e w2 ⟨q, rfl, hf, hk2⟩
  have HR := Lib.hid (PutRes.mk HKA.out HW.out HS.out hk2 hf.reads)
  clear hf hk2 c1
  go_wp2_with fail
  go_ret
  exact ⟨_, rfl, HR.out⟩

set_option maxRecDepth 100000 in
set_option maxHeartbeats 1600000 in
theorem put_v2 (h : PutIn w wb u B ys (.slice a n c) bs) (hk7 : ((k : Int) % 7) = 2) :
    Calls Tryd.prog 53 #[.pointer (some ⟨wb, 0, none⟩), .agg #[.int .u8 k, .int .u64 U, .int .i64 S, .slice a n c]] w fun e w' => ∃ q, e = .returned q ∧ PutRes w w' wb u B ys (encV 2 U S (bs.take 300)) q := by
  have hkA := Kept.alloc (fun _ => False) w (.cells #[.int .u8 k, .int .u64 U, .int .i64 S, .slice a n c] 78)
  have HA := Lib.hid (h.kept hkA); have HKA := Lib.hid hkA; have H := Lib.hid h; clear h hkA
  have hcl : (bs.take 300).length ≤ 300 := by simp; omega
  obtain ⟨cs, hcs⟩ : ∃ cs, cs = bs.take 300 := ⟨_, rfl⟩
  rw [← hcs] at hcl ⊢
  have HCS := Lib.hid hcs; clear hcs
  go_enter Tryd.func53, Tryd.ntmps53
  go_wp2_with fail
  refine (short_any _ _ bs HA.out.b).mono ?_
  rintro e wA ⟨cv, rfl, hr, ho, rfl⟩
  have HC := Lib.hid (HA.out.short hr ho)
  rw [← HCS.out] at HC
  clear hr ho
  have hstr := reads_str HC.out.b
  have hsz := strOf_size cs
  have hby := strOf_bytes HC.out.byte
  change (convert 48 9 cv).run Tryd.prog _ = .ok (.string (strOf cs)) _ at hstr
  generalize strOf cs = s at hstr hsz hby
  have HSZ := Lib.hid hsz; have HBY := Lib.hid hby; clear hsz hby
  go_wp2_with fail
  refine (string_any s _ wb u B ys HA.out.wr (by have := HA.out.hl; omega) (by have := HSZ.out; omega) HA.out.hB).mono ?_
  rintro e w1 ⟨rfl, u1, hw1, hs1⟩
  rw [HSZ.out, HBY.out] at hw1
  have HW := Lib.hid hw1; have HS := Lib.hid hs1; clear hw1 hs1 hstr
  go_wp2_with fail
  refine (putbytes_any cv cs w1 (HC.out.after HS.out) (by omega)).mono ?_
  rintro e w2 ⟨q, rfl, hf, hk2⟩
  have HR := Lib.hid (PutRes.mk HKA.out HW.out HS.out hk2 hf.reads)
  clear hf hk2
  go_wp2_with fail
  go_ret
  exact ⟨_, rfl, HR.out⟩

set_option maxRecDepth 100000 in
set_option maxHeartbeats 1600000 in
theorem put_v3 (h : PutIn w wb u B ys (.slice a n c) bs) (hk7 : ((k : Int) % 7) = 3) :
    Calls Tryd.prog 53 #[.pointer (some ⟨wb, 0, none⟩), .agg #[.int .u8 k, .int .u64 U, .int .i64 S, .slice a n c]] w fun e w' => ∃ q, e = .returned q ∧ PutRes w w' wb u B ys (encV 3 U S (bs.take 300)) q := by
  have hkA := Kept.alloc (fun _ => False) w (.cells #[.int .u8 k, .int .u64 U, .int .i64 S, .slice a n c] 78)
  have HA := Lib.hid (h.kept hkA); have HKA := Lib.hid hkA; have H := Lib.hid h; clear h hkA
  have hcl : (bs.take 300).length ≤ 300 := by simp; omega
  obtain ⟨cs, hcs⟩ : ∃ cs, cs = bs.take 300 := ⟨_, rfl⟩
  rw [← hcs] at hcl ⊢
  have HCS := Lib.hid hcs; clear hcs
  go_enter Tryd.func53, Tryd.ntmps53
  go_wp2_with fail
  refine (short_any _ _ bs HA.out.b).mono ?_
  rintro e wA ⟨cv, rfl, hr, ho, rfl⟩
  have HC := Lib.hid (HA.out.short hr ho)
  rw [← HCS.out] at HC
  clear hr ho
  go_wp2_with fail
  refine (wbytes_any cv cs _ wb u B ys HA.out.wr HC.out.b (fun j hj => ⟨fun e => HA.out.wr.low (HC.out.low j hj) (Or.inl e), fun e => HA.out.wr.low (HC.out.low j hj) (Or.inr e)⟩) (by have := HA.out.hl; omega) (by omega) HA.out.hB).mono ?_
  rintro e w1 ⟨rfl, u1, hw1, hs1⟩
  have HW := Lib.hid hw1; have HS := Lib.hid hs1; clear hw1 hs1
  go_wp2_with fail
  refine (putbytes_any cv cs w1 (HC.out.after HS.out) (by omega)).mono ?_
  rintro e w2 ⟨q, rfl, hf, hk2⟩
  have HR := Lib.hid (PutRes.mk HKA.out HW.out HS.out hk2 hf.reads)
  clear hf hk2
  go_wp2_with fail
  go_ret
  exact ⟨_, rfl, HR.out⟩

theorem encV_flag (U : Nat) (S : Int) (bs : List Nat) (b : Bool) (h : b = decide (U % 2 = 1)) : encV 4 U S bs = encFlag b := by
  rw [h]; rfl

set_option maxRecDepth 100000 in
set_option maxHeartbeats 1600000 in
theorem put_v4t (h : PutIn w wb u B ys (.slice a n c) bs) (hr : U % 2 = 1) (hk7 : ((k : Int) % 7) = 4) :
    Calls Tryd.prog 53 #[.pointer (some ⟨wb, 0, none⟩), .agg #[.int .u8 k, .int .u64 U, .int .i64 S, .slice a n c]] w fun e w' => ∃ q, e = .returned q ∧ PutRes w w' wb u B ys (encV 4 U S (bs.take 300)) q := by
  rw [encV_flag U S _ true (by rw [hr]; rfl)]
  have hr2 : (U : Int) % 2 = 1 := by omega
  have hkA := Kept.alloc (fun _ => False) w (.cells #[.int .u8 k, .int .u64 U, .int .i64 S, .slice a n c] 78)
  have HA := Lib.hid (h.kept hkA); have HKA := Lib.hid hkA; have H := Lib.hid h; clear h hkA hr
  go_enter Tryd.func53, Tryd.ntmps53
  go_wp2_with fail
  refine (short_any _ _ bs HA.out.b).mono ?_
  rintro e wA ⟨cv, rfl, hr, ho, rfl⟩
  clear hr ho
  go_wp2_with fail
  refine (wflag_any true _ wb u B ys HA.out.wr (by have := HA.out.hl; omega)).mono ?_
  rintro e w1 ⟨rfl, u1, hw1, hs1⟩
  have c1 : w1.cell? ⟨w.heap.size, 1, none⟩ = some (.int .u64 U) := (H.out.box hs1 1).trans (by go_simp)
  have HW := Lib.hid hw1; have HS := Lib.hid hs1; clear hw1 hs1
  go_wp2_with fail
  refine (putflag_any true w1).mono ?_
  rintro e w2 ⟨q, rfl, hf, hk2⟩
  have HR := Lib.hid (PutRes.mk HKA.out HW.out HS.out hk2 hf.reads)
  clear hf hk2 c1
  go_wp2_with fail
  go_ret
  exact ⟨_, rfl, HR.out⟩

set_option maxRecDepth 100000 in
set_option maxHeartbeats 1600000 in
theorem put_v4f (h : PutIn w wb u B ys (.slice a n c) bs) (hr : U % 2 = 0) (hk7 : ((k : Int) % 7) = 4) :
    Calls Tryd.prog 53 #[.pointer (some ⟨wb, 0, none⟩), .agg #[.int .u8 k, .int .u64 U, .int .i64 S, .slice a n c]] w fun e w' => ∃ q, e = .returned q ∧ PutRes w w' wb u B ys (encV 4 U S (bs.take 300)) q := by
  rw [encV_flag U S _ false (by rw [hr]; rfl)]
  have hr2 : (U : Int) % 2 = 0 := by omega
  have hkA := Kept.alloc (fun _ => False) w (.cells #[.int .u8 k, .int .u64 U, .int .i64 S, .slice a n c] 78)
  have HA := Lib.hid (h.kept hkA); have HKA := Lib.hid hkA; have H := Lib.hid h; clear h hkA hr
  go_enter Tryd.func53, Tryd.ntmps53
  go_wp2_with fail
  refine (short_any _ _ bs HA.out.b).mono ?_
  rintro e wA ⟨cv, rfl, hr, ho, rfl⟩
  clear hr ho
  go_wp2_with fail
  refine (wflag_any false _ wb u B ys HA.out.wr (by have := HA.out.hl; omega)).mono ?_
  rintro e w1 ⟨rfl, u1, hw1, hs1⟩
  have c1 : w1.cell? ⟨w.heap.size, 1, none⟩ = some (.int .u64 U) := (H.out.box hs1 1).trans (by go_simp)
  have HW := Lib.hid hw1; have HS := Lib.hid hs1; clear hw1 hs1
  go_wp2_with fail
  refine (putflag_any false w1).mono ?_
  rintro e w2 ⟨q, rfl, hf, hk2⟩
  have HR := Lib.hid (PutRes.mk HKA.out HW.out HS.out hk2 hf.reads)
  clear hf hk2 c1
  go_wp2_with fail
  go_ret
  exact ⟨_, rfl, HR.out⟩

set_option maxRecDepth 100000 in
set_option maxHeartbeats 1600000 in
theorem put_v5 (h : PutIn w wb u B ys (.slice a n c) bs) (hk7 : ((k : Int) % 7) = 5) :
    Calls Tryd.prog 53 #[.pointer (some ⟨wb, 0, none⟩), .agg #[.int .u8 k, .int .u64 U, .int .i64 S, .slice a n c]] w fun e w' => ∃ q, e = .returned q ∧ PutRes w w' wb u B ys (encV 5 U S (bs.take 300)) q := by
  have hkA := Kept.alloc (fun _ => False) w (.cells #[.int .u8 k, .int .u64 U, .int .i64 S, .slice a n c] 78)
  have HA := Lib.hid (h.kept hkA); have HKA := Lib.hid hkA; have H := Lib.hid h; clear h hkA
  have hcl : (bs.take 300).length ≤ 300 := by simp; omega
  obtain ⟨cs, hcs⟩ : ∃ cs, cs = bs.take 300 := ⟨_, rfl⟩
  rw [← hcs] at hcl ⊢
  have HCS := Lib.hid hcs; clear hcs
  go_enter Tryd.func53, Tryd.ntmps53
  go_wp2_with fail
  refine (short_any _ _ bs HA.out.b).mono ?_
  rintro e wA ⟨cv, rfl, hr, ho, rfl⟩
  have HC := Lib.hid (HA.out.short hr ho)
  rw [← HCS.out] at HC
  clear hr ho
  go_wp2_with fail
  refine (raw_any cv cs _ wb u B ys HA.out.wr HC.out.b (by have := HA.out.hl; omega) HA.out.hB).mono ?_
  rintro e w1 ⟨rfl, u1, hw1, hs1⟩
  have HR := Lib.hid (PutRes.mk HKA.out hw1 hs1 (Kept.refl _ _) (HC.out.after hs1))
  clear hw1 hs1
  go_wp2_with fail
  go_ret
  exact ⟨_, rfl, HR.out⟩

set_option maxRecDepth 100000 in
set_option maxHeartbeats 1600000 in
theorem put_v6 (h : PutIn w wb u B ys (.slice a n c) bs) (hk7 : ((k : Int) % 7) = 6) :
    Calls Tryd.prog 53 #[.pointer (some ⟨wb, 0, none⟩), .agg #[.int .u8 k, .int .u64 U, .int .i64 S, .slice a n c]] w fun e w' => ∃ q, e = .returned q ∧ PutRes w w' wb u B ys (encV 6 U S (bs.take 300)) q := by
  have hkA := Kept.alloc (fun _ => False) w (.cells #[.int .u8 k, .int .u64 U, .int .i64 S, .slice a n c] 78)
  have HA := Lib.hid (h.kept hkA); have HKA := Lib.hid hkA; have H := Lib.hid h; clear h hkA
  have hcl : (bs.take 300).length ≤ 300 := by simp; omega
  obtain ⟨cs, hcs⟩ : ∃ cs, cs = bs.take 300 := ⟨_, rfl⟩
  rw [← hcs] at hcl ⊢
  have HCS := Lib.hid hcs; clear hcs
  go_enter Tryd.func53, Tryd.ntmps53
  go_wp2_with fail
  refine (short_any _ _ bs HA.out.b).mono ?_
  rintro e wA ⟨cv, rfl, hr, ho, rfl⟩
  have HC := Lib.hid (HA.out.short hr ho)
  rw [← HCS.out] at HC
  clear hr ho
  have hin := membersOf_in HC.out.byte
  have HIN := Lib.hid hin; clear hin
  go_wp2_with fail
  refine (members_any _ cv cs HC.out.b HC.out.byte).mono ?_
  rintro e w1 ⟨lv, rfl, hl1, _, hk1⟩
  go_wp2_with fail
  refine (of_any w1 lv (membersOf cs) hl1).mono ?_
  rintro e w2 ⟨sv, rfl, hs2, _, hk2⟩
  have HA2 := Lib.hid (HC.out.kept (hk1.then hk2))
  have HK2 := Lib.hid (HKA.out.then (hk1.then hk2))
  clear hl1 hk1 hk2
  go_wp2_with fail
  refine (wset_any sv _ (maskOf_small _) w2 wb u B ys HA2.out.wr hs2 (by have := HA2.out.hl; omega) HA2.out.hB).mono ?_
  rintro e w3 ⟨rfl, u3, hw3, hs3⟩
  have HW := Lib.hid hw3; have HS := Lib.hid hs3; clear hw3 hs3 hs2
  go_wp2_with fail
  refine (members_any w3 cv cs (HA2.out.after HS.out) HC.out.byte).mono ?_
  rintro e w4 ⟨lv4, rfl, hl4, _, hk4⟩
  go_wp2_with fail
  refine (putset_any w4 lv4 (membersOf cs) hl4 HIN.out).mono ?_
  rintro e w5 ⟨q, rfl, hf, hk5⟩
  have HR := Lib.hid (PutRes.mk HK2.out HW.out HS.out (hk4.then hk5) hf.reads)
  clear hf hk4 hk5 hl4
  go_wp2_with fail
  go_ret
  exact ⟨_, rfl, HR.out⟩

/-- 'put' of any value. -/
theorem put_val (h : PutIn w wb u B ys (.slice a n c) bs) (hU : U < 18446744073709551616) (hS : -9223372036854775808 ≤ S ∧ S < 9223372036854775808) :
    Calls Tryd.prog 53 #[.pointer (some ⟨wb, 0, none⟩), .agg #[.int .u8 k, .int .u64 U, .int .i64 S, .slice a n c]] w fun e w' => ∃ q, e = .returned q ∧ PutRes w w' wb u B ys (encV (k % 7) U S (bs.take 300)) q := by
  have hk : k % 7 = 0 ∨ k % 7 = 1 ∨ k % 7 = 2 ∨ k % 7 = 3 ∨ k % 7 = 4 ∨ k % 7 = 5 ∨ k % 7 = 6 := by omega
  rcases hk with hk | hk | hk | hk | hk | hk | hk
  all_goals rw [hk]
  · exact put_v0 w wb k U S u B ys a n c bs h hU (by omega)
  · exact put_v1 w wb k U S u B ys a n c bs h hS (by omega)
  · exact put_v2 w wb k U S u B ys a n c bs h (by omega)
  · exact put_v3 w wb k U S u B ys a n c bs h (by omega)
  · rcases (show U % 2 = 1 ∨ U % 2 = 0 by omega) with hr | hr
    · exact put_v4t w wb k U S u B ys a n c bs h hr (by omega)
    · exact put_v4f w wb k U S u B ys a n c bs h hr (by omega)
  · exact put_v5 w wb k U S u B ys a n c bs h (by omega)
  · exact put_v6 w wb k U S u B ys a n c bs h (by omega)

end

end Go.Proofs.YtljjhdfackicpaaDoor
