/-
  Plain words: bits of bytes and of 64-bit numbers, as the walk writes them. No program is named here.
-/
import Derived.Laws.BitsAllLaws
import Derived.IntWalk
namespace Go.Proofs.YtnnakllgfaaejaaGreatDoor

theorem or128 (x : Nat) (h : x < 256) : x ||| 128 = x % 128 + 128 := by
  have : ∀ x : Fin 256, x.val ||| 128 = x.val % 128 + 128 := by decide +kernel
  exact this ⟨x, h⟩

/-- 'byte(v >> S) | 128'. -/
theorem group_more (n S b : Nat) (h : b = n / 2 ^ S % 128 + 128) : bits .or .u8 (IntKind.u8.wrap ((n : Int) / 2 ^ S)) 128 = (b : Int) := by
  have e : IntKind.u8.wrap ((n : Int) / 2 ^ S) = ((n / 2 ^ S % 256 : Nat) : Int) := by
    rw [IntKind.wrap_u8']
    simp
  rw [e, show (128 : Int) = ((128 : Nat) : Int) from rfl, u8_or_nat _ _ (by omega) (by omega), or128 _ (by omega), h]
  congr 1
  omega

/-- 'byte(v) & 127'. -/
theorem group_last (n : Nat) : bits .and .u8 (IntKind.u8.wrap (n : Int)) 127 = ((n % 128 : Nat) : Int) := by
  have e : IntKind.u8.wrap (n : Int) = ((n % 256 : Nat) : Int) := by
    rw [IntKind.wrap_u8']
    simp
  rw [e, show (127 : Int) = ((127 : Nat) : Int) from rfl, u8_and_nat _ _ (by omega) (by omega), nat_mask7]
  congr 1
  omega

theorem group_last' (n c : Nat) (h : c = n % 128) : bits .and .u8 ((n : Int) % 256) 127 = (c : Int) := by
  rw [h, ← group_last, IntKind.wrap_u8']

/-- 'v << 7 | uint64(b & 127)'. -/
theorem group_in (x b y : Nat) (hx : x / 144115188075855872 = 0) (hb : b < 256) (hy : y = x * 128 + b % 128) :
    bits .or .u64 (IntKind.u64.wrap ((x : Int) * 128)) (IntKind.u64.wrap (bits .and .u8 (b : Int) 127)) = (y : Int) := by
  rw [show (127 : Int) = ((127 : Nat) : Int) from rfl, u8_and_nat _ _ hb (by omega), nat_mask7]
  have e1 : IntKind.u64.wrap ((x : Int) * 128) = ((x * 128 : Nat) : Int) := by rw [IntWalk.u64_in _ (by omega)]; omega
  have e2 : IntKind.u64.wrap (((b % 128 : Nat)) : Int) = ((b % 128 : Nat) : Int) := by rw [IntWalk.u64_in _ (by omega)]
  rw [e1, e2, u64_or_nat _ _ (by omega) (by omega), nat_join 7 _ _ (by omega) (by omega), hy]

end Go.Proofs.YtnnakllgfaaejaaGreatDoor
