/-
  arbaclaw02.back: it reads a value that was written, and compares it.
-/
import Derived.Test.YtknphfednknajabPutV
import Derived.Test.YtknphfednknajabRInt
import Derived.Test.YtknphfednknajabBackM
import Derived.Test.YtknphfednknajabEqual
import Derived.Deep.RegionHeld3
import Derived.Deep.RegionLaw
namespace Go.Proofs.Ytknphfednknajab
open Go.RowKit

theorem beq_nat (x y : Nat) : ((x : Int) == (y : Int)) = decide (x = y) := by
  by_cases h : x = y
  · subst h; simp
  · have : ((x : Int) == (y : Int)) = false := by simp; omega
    rw [this]; simp [h]

theorem reads_slice {w : World} {v : Value} {xs : List Nat} (h : Reads w v xs) : ∃ a c, v = .slice a xs.length c := by
  rcases h with ⟨h, h2⟩ | ⟨g, off, cap, h, _⟩
  · exact ⟨none, 0, by rw [h, h2]; rfl⟩
  · exact ⟨_, _, h⟩

theorem str_beq {xs ys : List Nat} (hx : ∀ b ∈ xs, b < 256) (hy : ∀ b ∈ ys, b < 256) : ((strOf xs).toList == (strOf ys).toList) = decide (xs = ys) := by
  rw [Bool.eq_iff_iff, beq_iff_eq, decide_eq_true_iff, ← str_inj hx hy, ByteArray.toList_eq, ByteArray.toList_eq]
  constructor
  · intro h
    change strOf xs = strOf ys
    generalize strOf xs = A at h ⊢
    generalize strOf ys = B at h ⊢
    cases A; cases B
    simp only [ByteArray.mk.injEq]
    exact Array.ext' h
  · intro h
    change strOf xs = strOf ys at h
    rw [h]

/-- What 'back' gives: whether it is the value, the bytes that are left, the error. -/
def backS (c U : Nat) (S : Int) (bs xs : List Nat) : Bool × List Nat × Int :=
  if c = 0 then (decide ((uintS xs U 0).1 = U), (uintS xs U 0).2) else if c = 1 then (decide ((intS xs S S 0).1 = S), (intS xs S S 0).2)
  else if c = 2 ∨ c = 3 then (decide ((pieceS xs bs.length 0).1 = bs), (pieceS xs bs.length 0).2) else if c = 4 then (decide ((flagS xs 0).1 = decide (U % 2 = 1)), (flagS xs 0).2)
  else (decide ((setS xs 4095 0).1 = maskOf (membersOf bs)), (setS xs 4095 0).2)

/-- What 'back' is given. -/
structure BackIn (w : World) (rb : Nat) (v : Value) (xs : List Nat) (bv : Value) (bs : List Nat) : Prop where
  rd : Rd w rb v xs 0
  xbyte : ∀ x ∈ xs, x < 256
  b : Reads w bv bs
  byte : ∀ x ∈ bs, x < 256
  nrb : bv.ownBlock ≠ some rb

/-- What 'back' leaves. -/
def BackRes (w w' : World) (rb : Nat) (v : Value) (r : Bool × List Nat × Int) (e : Ending) : Prop :=
  e = .returned (.bool r.1) ∧ ∃ v', Rd w' rb v' r.2.1 r.2.2 ∧ v'.ownBlock = v.ownBlock ∧ Kept (fun k => k = rb) w w'

theorem BackIn.kept {w w' : World} {rb : Nat} {v : Value} {xs : List Nat} {bv : Value} {bs : List Nat} (h : BackIn w rb v xs bv bs) (hk : Kept (fun _ => False) w w') : BackIn w' rb v xs bv bs :=
  ⟨h.rd.kept hk (fun h => h) (fun _ _ h => h), h.xbyte, h.b.kept hk (fun _ _ h => h), h.byte, h.nrb⟩

theorem BackIn.short {w : World} {rb : Nat} {v : Value} {xs : List Nat} {bv cv : Value} {bs : List Nat} (h : BackIn w rb v xs bv bs) (hr : Reads w cv (bs.take 300)) (ho : cv.ownBlock = bv.ownBlock) : BackIn w rb v xs cv (bs.take 300) :=
  ⟨h.rd, h.xbyte, hr, fun x hx => h.byte x (List.mem_of_mem_take hx), by rw [ho]; exact h.nrb⟩

theorem BackIn.after {w w' : World} {rb : Nat} {v : Value} {xs : List Nat} {bv : Value} {bs : List Nat} (h : BackIn w rb v xs bv bs) (hk : Kept (fun k => k = rb) w w') : Reads w' bv bs :=
  h.b.kept hk fun k hk e => h.nrb (by rw [hk, e])

/-- The boxed value behind a step of the reader. -/
theorem BackIn.box {w w1 : World} {o : Obj} {rb : Nat} {v : Value} {xs : List Nat} {bv : Value} {bs : List Nat} (h : BackIn w rb v xs bv bs) (hk : Kept (fun k => k = rb) (w.alloc o) w1) (i : Nat) : w1.cell? ⟨w.heap.size, i, none⟩ = (w.alloc o).cell? ⟨w.heap.size, i, none⟩ :=
  hk.cell (p := ⟨w.heap.size, i, none⟩) (by simp) (fun e => by
    have := h.rd.lt
    have e2 : w.heap.size = rb := e
    omega)

theorem Kept.pre {S : Nat → Prop} {a b c : World} (h : Kept (fun _ => False) a b) (k : Kept S b c) : Kept S a c := h.trans k (fun _ _ h => h.elim) (fun _ _ h => h)

section
variable (w : World) (rb k U : Nat) (S : Int) (v : Value) (xs : List Nat) (a : Option Addr) (n c : Nat) (bs : List Nat)

set_option maxRecDepth 100000 in
set_option maxHeartbeats 1600000 in
theorem back_v0 (h : BackIn w rb v xs (.slice a n c) bs) (hk7 : ((k : Int) % 7) = 0) :
    Calls Try.prog 22 #[.pointer (some ⟨rb, 0, none⟩), .agg #[.int .u8 k, .int .u64 U, .int .i64 S, .slice a n c]] w fun e w' => BackRes w w' rb v (backS 0 U S (bs.take 300) xs) e := by
  have hkA := Kept.alloc (fun _ => False) w (.cells #[.int .u8 k, .int .u64 U, .int .i64 S, .slice a n c] 44)
  have HA := Lib.hid (h.kept hkA); have HKA := Lib.hid hkA; have H := Lib.hid h; clear h hkA
  have b1 : (w.alloc (.cells #[.int .u8 k, .int .u64 U, .int .i64 S, .slice a n c] 44)).cell? ⟨w.heap.size, 1, none⟩ = some (.int .u64 U) := by go_simp
  go_enter Try.func22, Try.ntmps22
  go_wp2_with fail
  refine (short_any _ _ bs HA.out.b).mono ?_
  rintro e wA ⟨cv, rfl, hr, ho, rfl⟩
  clear hr ho
  go_wp2_with fail
  have hlt := H.out.rd.lt
  go_region_held3 (fun w' => w'.cell? ⟨w.heap.size, 1, none⟩ = some (.int .u64 U))
    (first | go_keep)
    ((first | (go_at_call 35; refine (ruint_any _ rb v xs 0 U (by exact HA.out.rd.drew) HA.out.xbyte).mono ?_; rintro e w6 ⟨rfl, v6, hrd6, hrv6, hk6⟩; have HK6 := Lib.hid hk6; have HRV6 := Lib.hid hrv6; have HRD6 := Lib.hid hrd6; have b60 := (hk6.cell (p := ⟨w.heap.size, 1, none⟩) (by simp) (by simp; omega)).trans (by exact b1); clear hk6 hrv6 hrd6)))
  go_wp2_with fail
  go_ret
  exact ⟨by rw [beq_nat]; rfl, v6, HRD6.out, HRV6.out, HKA.out.drew.pre HK6.out⟩

set_option maxRecDepth 100000 in
set_option maxHeartbeats 1600000 in
theorem back_v1 (h : BackIn w rb v xs (.slice a n c) bs) (hk7 : ((k : Int) % 7) = 1) :
    Calls Try.prog 22 #[.pointer (some ⟨rb, 0, none⟩), .agg #[.int .u8 k, .int .u64 U, .int .i64 S, .slice a n c]] w fun e w' => BackRes w w' rb v (backS 1 U S (bs.take 300) xs) e := by
  have hkA := Kept.alloc (fun _ => False) w (.cells #[.int .u8 k, .int .u64 U, .int .i64 S, .slice a n c] 44)
  have HA := Lib.hid (h.kept hkA); have HKA := Lib.hid hkA; have H := Lib.hid h; clear h hkA
  have b1 : (w.alloc (.cells #[.int .u8 k, .int .u64 U, .int .i64 S, .slice a n c] 44)).cell? ⟨w.heap.size, 2, none⟩ = some (.int .i64 S) := by go_simp
  go_enter Try.func22, Try.ntmps22
  go_wp2_with fail
  refine (short_any _ _ bs HA.out.b).mono ?_
  rintro e wA ⟨cv, rfl, hr, ho, rfl⟩
  clear hr ho
  go_wp2_with fail
  have hlt := H.out.rd.lt
  go_region_held3 (fun w' => w'.cell? ⟨w.heap.size, 2, none⟩ = some (.int .i64 S))
    (first | go_keep)
    ((first | (go_at_call 13; refine (rint_any _ rb v xs 0 S S (by exact HA.out.rd.drew) HA.out.xbyte).mono ?_; rintro e w6 ⟨rfl, v6, hrd6, hrv6, hk6⟩; have HK6 := Lib.hid hk6; have HRV6 := Lib.hid hrv6; have HRD6 := Lib.hid hrd6; have b60 := (hk6.cell (p := ⟨w.heap.size, 2, none⟩) (by simp) (by simp; omega)).trans (by exact b1); clear hk6 hrv6 hrd6)))
  go_wp2_with fail
  go_ret
  exact ⟨rfl, v6, HRD6.out, HRV6.out, HKA.out.drew.pre HK6.out⟩

set_option maxRecDepth 100000 in
set_option maxHeartbeats 1600000 in
theorem back_v2 (h : BackIn w rb v xs (.slice a n c) bs) (hk7 : ((k : Int) % 7) = 2) :
    Calls Try.prog 22 #[.pointer (some ⟨rb, 0, none⟩), .agg #[.int .u8 k, .int .u64 U, .int .i64 S, .slice a n c]] w fun e w' => BackRes w w' rb v (backS 2 U S (bs.take 300) xs) e := by
  have hkA := Kept.alloc (fun _ => False) w (.cells #[.int .u8 k, .int .u64 U, .int .i64 S, .slice a n c] 44)
  have HA := Lib.hid (h.kept hkA); have HKA := Lib.hid hkA; have H := Lib.hid h; clear h hkA
  have hcl : (bs.take 300).length ≤ 300 := by simp; omega
  obtain ⟨cs, hcs⟩ : ∃ cs, cs = bs.take 300 := ⟨_, rfl⟩
  rw [← hcs] at hcl ⊢
  have HCS := Lib.hid hcs; clear hcs
  go_enter Try.func22, Try.ntmps22
  go_wp2_with fail
  refine (short_any _ _ bs HA.out.b).mono ?_
  rintro e wA ⟨cv, rfl, hr, ho, rfl⟩
  have HC := Lib.hid (HA.out.short hr ho)
  rw [← HCS.out] at HC
  clear hr ho
  obtain ⟨cva, cvn, hcf⟩ := reads_slice HC.out.b
  obtain ⟨N, hN⟩ : ∃ N, N = cs.length := ⟨_, rfl⟩
  rw [← hN] at hcf hcl
  have HN := Lib.hid hN; clear hN
  subst hcf
  have hs1 := reads_str HC.out.b
  have hs2 := reads_str (show Reads _ _ cs from HC.out.b.kept (Kept.refl _ _).drew (fun _ _ h => h))
  change (convert 28 9 _).run Try.prog _ = .ok (.string (strOf cs)) _ at hs1 hs2
  have hp := rstring_any _ rb v xs 0 N (show Rd _ rb v xs 0 from HA.out.rd.drew) HA.out.xbyte (by show (N : Int) < 9223372036854775808; omega)
  have HP := Lib.hid hp; clear hp
  go_wp2_with fail
  go_region_law ((go_simp; go_at_call 41; refine HP.out.mono ?_; rintro e w6 ⟨rfl, v6, hrd6, hrv6, hk6⟩; have HK6 := Lib.hid hk6; have HRV6 := Lib.hid hrv6; have HRD6 := Lib.hid hrd6; have hs6 := reads_str (HC.out.after (Kept.trans (T := fun k => k = rb) (Kept.refl (fun _ => False) _).drew hk6 (fun _ _ h => h.elim) (fun _ _ h => h))); change (convert 28 9 _).run Try.prog _ = .ok (.string (strOf cs)) _ at hs6; clear hk6 hrv6 hrd6))
  all_goals
    go_wp2
    go_ret
    have hE : backS 2 U S cs xs = (decide ((pieceS xs N 0).1 = cs), (pieceS xs N 0).2) := by rw [HN.out]; rfl
    rw [hE]
    exact ⟨by rw [← str_beq (pieceS_byte N 0 HA.out.xbyte).1 HC.out.byte]; rfl, v6, HRD6.out, HRV6.out, HKA.out.drew.pre HK6.out⟩

end

end Go.Proofs.Ytknphfednknajab
