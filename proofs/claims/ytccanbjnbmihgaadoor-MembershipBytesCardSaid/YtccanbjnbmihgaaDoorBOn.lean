/-
  math/bits.OnesCount64: what it computes, step by step.
-/
import Derived.Test.YtccanbjnbmihgaaDoorBAll
import Derived.Laws.BitsAllLaws
namespace Go.Proofs.YtccanbjnbmihgaaDoor
open Go.RowKit

/-- What OnesCount64 computes. -/
def pop1 (x : Nat) : Nat := (x / 2 &&& 6148914691236517205) + (x &&& 6148914691236517205)
def pop2 (x : Nat) : Nat := (x / 4 &&& 3689348814741910323) + (x &&& 3689348814741910323)
def pop3 (x : Nat) : Nat := (x / 16 + x) &&& 1085102592571150095
def popS (x : Nat) : Nat :=
  (pop3 (pop2 (pop1 x)) + pop3 (pop2 (pop1 x)) / 256 + (pop3 (pop2 (pop1 x)) + pop3 (pop2 (pop1 x)) / 256) / 65536 + (pop3 (pop2 (pop1 x)) + pop3 (pop2 (pop1 x)) / 256 + (pop3 (pop2 (pop1 x)) + pop3 (pop2 (pop1 x)) / 256) / 65536) / 4294967296) &&& 127
theorem popS_le (x : Nat) : popS x ≤ 127 := Nat.and_le_right

set_option maxRecDepth 100000 in
set_option maxHeartbeats 1600000 in
theorem ones_any (x : Nat) (hx : x < 18446744073709551616) (w : World) : Calls Tryd.prog 85 #[.int .u64 x] w fun e w' => e = .returned (.int .i64 (popS x : Nat)) ∧ w = w' := by
  obtain ⟨a1, ha1⟩ : ∃ a, a = x / 2 &&& 6148914691236517205 := ⟨_, rfl⟩
  obtain ⟨b1, hb1⟩ : ∃ a, a = x &&& 6148914691236517205 := ⟨_, rfl⟩
  have la1 : a1 ≤ 6148914691236517205 := by rw [ha1]; exact Nat.and_le_right
  have lb1 : b1 ≤ 6148914691236517205 := by rw [hb1]; exact Nat.and_le_right
  obtain ⟨s1, hs1⟩ : ∃ a, a = a1 + b1 := ⟨_, rfl⟩
  obtain ⟨a2, ha2⟩ : ∃ a, a = s1 / 4 &&& 3689348814741910323 := ⟨_, rfl⟩
  obtain ⟨b2, hb2⟩ : ∃ a, a = s1 &&& 3689348814741910323 := ⟨_, rfl⟩
  have la2 : a2 ≤ 3689348814741910323 := by rw [ha2]; exact Nat.and_le_right
  have lb2 : b2 ≤ 3689348814741910323 := by rw [hb2]; exact Nat.and_le_right
  obtain ⟨s2, hs2⟩ : ∃ a, a = a2 + b2 := ⟨_, rfl⟩
  obtain ⟨q3, hq3⟩ : ∃ a, a = s2 / 16 + s2 := ⟨_, rfl⟩
  obtain ⟨s3, hs3⟩ : ∃ a, a = q3 &&& 1085102592571150095 := ⟨_, rfl⟩
  have ls3 : s3 ≤ 1085102592571150095 := by rw [hs3]; exact Nat.and_le_right
  obtain ⟨s4, hs4⟩ : ∃ a, a = s3 + s3 / 256 := ⟨_, rfl⟩
  obtain ⟨s5, hs5⟩ : ∃ a, a = s4 + s4 / 65536 := ⟨_, rfl⟩
  obtain ⟨s6, hs6⟩ : ∃ a, a = s5 + s5 / 4294967296 := ⟨_, rfl⟩
  obtain ⟨c, hc⟩ : ∃ a, a = s6 &&& 127 := ⟨_, rfl⟩
  have hfin : popS x = c := by
    have e3 : s3 = pop3 (pop2 (pop1 x)) := by
      rw [hs3, hq3, hs2, ha2, hb2, hs1, ha1, hb1]; rfl
    rw [hc, hs6, hs5, hs4, e3]; rfl
  rw [hfin]
  have hE : bits .and .u64 ((x : Int) / 2) 6148914691236517205 = (a1 : Int) ∧ bits .and .u64 (x : Int) 6148914691236517205 = (b1 : Int) ∧ IntKind.u64.wrap ((a1 : Int) + (b1 : Int)) = (s1 : Int) ∧
      bits .and .u64 ((s1 : Int) / 4) 3689348814741910323 = (a2 : Int) ∧ bits .and .u64 (s1 : Int) 3689348814741910323 = (b2 : Int) ∧ IntKind.u64.wrap ((a2 : Int) + (b2 : Int)) = (s2 : Int) ∧
      IntKind.u64.wrap ((s2 : Int) / 16 + (s2 : Int)) = (q3 : Int) ∧ bits .and .u64 (q3 : Int) 1085102592571150095 = (s3 : Int) ∧
      IntKind.u64.wrap ((s3 : Int) + (s3 : Int) / 256) = (s4 : Int) ∧ IntKind.u64.wrap ((s4 : Int) + (s4 : Int) / 65536) = (s5 : Int) ∧ IntKind.u64.wrap ((s5 : Int) + (s5 : Int) / 4294967296) = (s6 : Int) ∧
      IntKind.i64.wrap (s6 : Int) = (s6 : Int) ∧ bits .and .i64 (s6 : Int) 127 = (c : Int) := by
    refine ⟨?_, ?_, ?_, ?_, ?_, ?_, ?_, ?_, ?_, ?_, ?_, ?_, ?_⟩
    · rw [ha1]; have := u64_and_nat (x / 2) 6148914691236517205 (by omega) (by omega); exact this
    · rw [hb1]; have := u64_and_nat x 6148914691236517205 (by omega) (by omega); exact this
    · rw [IntWalk.u64_in _ (by omega)]; omega
    · rw [ha2]; have := u64_and_nat (s1 / 4) 3689348814741910323 (by omega) (by omega); exact this
    · rw [hb2]; have := u64_and_nat s1 3689348814741910323 (by omega) (by omega); exact this
    · rw [IntWalk.u64_in _ (by omega)]; omega
    · rw [IntWalk.u64_in _ (by omega)]; omega
    · rw [hs3]; have := u64_and_nat q3 1085102592571150095 (by omega) (by omega); exact this
    · rw [IntWalk.u64_in _ (by omega)]; omega
    · rw [IntWalk.u64_in _ (by omega)]; omega
    · rw [IntWalk.u64_in _ (by omega)]; omega
    · exact IntWalk.i64_in _ (by omega)
    · rw [hc]
      have h1 : (BitVec.ofInt 64 (s6 : Int)).toNat = s6 := by rw [BitVec.ofInt_natCast, BitVec.toNat_ofNat]; omega
      have h2 : s6 &&& 127 ≤ 127 := Nat.and_le_right
      show IntKind.i64.wrap ((BitVec.ofInt 64 (s6 : Int) &&& BitVec.ofInt 64 127).toNat : Int) = _
      rw [BitVec.toNat_and, h1, show (BitVec.ofInt 64 127).toNat = 127 from rfl]
      exact IntWalk.i64_in _ (by omega)
  clear ha1 hb1 la1 lb1 hs1 ha2 hb2 la2 lb2 hs2 hq3 hs3 ls3 hs4 hs5 hs6 hc hfin hx
  obtain ⟨e1, e2, e3, e4, e5, e6, e7, e8, e9, e10, e11, e12, e13⟩ := hE
  go_enter Tryd.func85, Tryd.ntmps85
  go_wp2_with fail
  go_ret
  exact ⟨rfl, rfl⟩
end Go.Proofs.YtccanbjnbmihgaaDoor
