/-
  arbaclaw02.back of a value that lies in memory, any kind: a written value is read back.
-/
import Derived.Test.YtknphfednknajabBackW
import Derived.Test.YtknphfednknajabBackS
namespace Go.Proofs.Ytknphfednknajab
open Go.RowKit

section
variable (w : World) (rb k U : Nat) (S : Int) (v : Value) (a : Option Addr) (n c : Nat) (bs : List Nat) (B : Nat) (rest : List Nat)

set_option maxRecDepth 100000 in
set_option maxHeartbeats 1600000 in
theorem back_w5 (h : BackInL w rb v (bs.take 300 ++ rest) (.slice a n c) bs B) (hk7 : ((k : Int) % 7) = 5) :
    Calls Try.prog 22 #[.pointer (some ⟨rb, 0, none⟩), .agg #[.int .u8 k, .int .u64 U, .int .i64 S, .slice a n c]] w fun e w' => BackRes w w' rb v (true, rest, 0) e := by
  have hkA := Kept.alloc (fun _ => False) w (.cells #[.int .u8 k, .int .u64 U, .int .i64 S, .slice a n c] 44)
  have HA := Lib.hid (h.kept hkA); have HKA := Lib.hid hkA; clear h hkA
  have hcl : (bs.take 300).length ≤ 300 := by simp; omega
  obtain ⟨cs, hcs⟩ : ∃ cs, cs = bs.take 300 := ⟨_, rfl⟩
  rw [← hcs] at hcl HA
  have HCS := Lib.hid hcs; clear hcs
  go_enter Try.func22, Try.ntmps22
  go_wp2_with fail
  refine (short_loose _ _ bs B HA.out.b).mono ?_
  rintro e wA ⟨cv, rfl, hr, rfl⟩
  have HC := Lib.hid (HA.out.short hr)
  rw [← HCS.out] at HC
  clear hr
  obtain ⟨cva, cvn, hcf⟩ := HC.out.b.form
  obtain ⟨N, hN⟩ : ∃ N, N = cs.length := ⟨_, rfl⟩
  rw [← hN] at hcf hcl
  have HN := Lib.hid hN; clear hN
  subst hcf
  have hp := rraw_ok _ rb v (cs ++ rest) N HA.out.rd (by rw [HN.out]; simp) (by omega)
  rw [HN.out, List.take_left, List.drop_left, ← HN.out] at hp
  have HP := Lib.hid hp; clear hp
  go_wp2_with fail
  refine HP.out.mono ?_
  rintro e w6 ⟨q, v6, rfl, hf6, hrd6, hrv6, hk6⟩
  have HK6 := Lib.hid hk6; have HRV6 := Lib.hid hrv6; have HRD6 := Lib.hid hrd6; have HF6 := Lib.hid hf6.reads; clear hk6 hrv6 hrd6 hf6
  go_wp2_with fail
  refine (same_loose w6 q _ cs cs B HF6.out (HC.out.after HK6.out) HC.out.byte HC.out.byte).mono ?_
  rw [show decide (cs = cs) = true by simp]
  rintro e w7 ⟨rfl, rfl⟩
  go_wp2_with fail
  go_ret
  exact ⟨rfl, v6, HRD6.out, HRV6.out, HKA.out.pre HK6.out⟩

/-- 'back' of a value that was written. -/
theorem back_all (h : BackInL w rb v (encV (k % 7) U S (bs.take 300) ++ rest) (.slice a n c) bs B) (hU : U < 18446744073709551616) (hS : -9223372036854775808 ≤ S ∧ S < 9223372036854775808) :
    Calls Try.prog 22 #[.pointer (some ⟨rb, 0, none⟩), .agg #[.int .u8 k, .int .u64 U, .int .i64 S, .slice a n c]] w fun e w' => BackRes w w' rb v (true, rest, 0) e := by
  by_cases h5 : k % 7 = 5
  · rw [h5] at h
    exact back_w5 w rb k U S v a n c bs B rest h (by omega)
  · have hb := back_loose w rb k U S v _ a n c bs B h h5
    rw [backS_enc (k % 7) U S (bs.take 300) rest (by omega) h5 (by simp; omega) hU hS] at hb
    exact hb

end

end Go.Proofs.Ytknphfednknajab
