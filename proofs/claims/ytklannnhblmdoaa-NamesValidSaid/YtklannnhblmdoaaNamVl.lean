/-
  arbaclaw08.NamesValid returns true.
-/
import Derived.Test.YtklannnhblmdoaaNamR
namespace Go.Proofs.Ytklannnhblmdoaa
open Go.RowKit

set_option maxRecDepth 100000 in
set_option maxHeartbeats 1600000 in
theorem valid8_any (s : ByteArray) (n : Nat) (w : World) (_hs : s.size ≤ 9223372036854775807) (hn : n < 256) :
    Calls Try.prog 3 #[.string s, .int .u8 n] w fun e w' => e = .returned (.bool true) ∧ Kept (fun _ => False) w w' := by
  obtain ⟨m, hm⟩ : ∃ m, m = Nat.min s.size 40 := ⟨_, rfl⟩
  have hmi : min (s.size : Int) 40 = (m : Int) := by
    rcases Nat.lt_or_ge 40 s.size with h | h
    · have : m = 40 := by rw [hm]; exact Nat.min_eq_right (by omega)
      omega
    · have : m = s.size := by rw [hm]; exact Nat.min_eq_left h
      omega
  have hm1 : m ≤ s.size := by rw [hm]; exact Nat.min_le_left _ _
  have hm3 : (m : Int) ≤ (s.size : Int) := by omega
  have hm0 : (0 : Int) ≤ (m : Int) := by omega
  clear hm hm1
  go_enter Try.func3, Try.ntmps3
  go_wp2_with fail
  refine (awake8_any w).mono ?_
  rintro e w0 ⟨rfl, k0⟩
  have K0 := Lib.hid k0
  clear k0
  go_wp2_with fail
  clear hmi hm3 hm0
  generalize s.extract 0 m = t
  refine (word8_any n w0 hn).mono ?_
  rintro e w1 ⟨x, rfl, h13, hx, k1⟩
  clear h13 hx
  have K1 := Lib.hid (K0.out.then k1)
  clear k1
  go_wp2_with fail
  refine (valid_any t w1).mono ?_
  rintro e w2 ⟨rfl, k2⟩
  have K2 := Lib.hid (K1.out.then k2)
  clear k2
  go_wp2_with fail
  refine (rvalid_any t w2).mono ?_
  rintro e w3 ⟨rfl, k3⟩
  have K3 := Lib.hid (K2.out.then k3)
  clear k3
  generalize validS t = b1
  go_wp2_with fail
  refine (valid_any x w3).mono ?_
  rintro e w4 ⟨rfl, k4⟩
  have K4 := Lib.hid (K3.out.then k4)
  clear k4
  go_wp2_with fail
  refine (rvalid_any x w4).mono ?_
  rintro e w5 ⟨rfl, k5⟩
  have K5 := Lib.hid (K4.out.then k5)
  clear k5
  generalize validS x = b2
  go_wp2_with fail
  go_ret
  exact ⟨rfl, K5.out⟩
end Go.Proofs.Ytklannnhblmdoaa
