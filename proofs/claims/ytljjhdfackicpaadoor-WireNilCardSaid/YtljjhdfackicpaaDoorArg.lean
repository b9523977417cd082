/-
  arbaclaw02.short of a slice of bytes.
-/
import Derived.Test.YtljjhdfackicpaaDoorArgIn
namespace Go.Proofs.YtljjhdfackicpaaDoor
open Go.RowKit

set_option maxRecDepth 100000 in
set_option maxHeartbeats 400000 in
theorem short_at (w : World) (g off len cap : Nat) (hl : len ≤ cap) (hm : cap ≤ 9223372036854775807) :
    Calls Tryd.prog 46 #[.slice (some ⟨g, off, none⟩) len cap] w fun e w' => e = .returned (.slice (some ⟨g, off, none⟩) (min len 300) cap) ∧ w = w' := by
  by_cases h : len ≤ 300
  · have h1 : (len : Int) ≤ 300 := by omega
    have h2 : min len 300 = len := by omega
    have h3 : min (len : Int) 300 = (len : Int) := by omega
    rw [h2]
    go_enter Tryd.func46, Tryd.ntmps46
    go_wp2_with fail
    go_ret
    exact ⟨rfl, rfl⟩
  · have h1 : (300 : Int) < (len : Int) := by omega
    have h2 : min len 300 = 300 := by omega
    have h3 : min (len : Int) 300 = 300 := by omega
    have h4 : 300 ≤ cap := by omega
    rw [h2]
    go_enter Tryd.func46, Tryd.ntmps46
    go_wp2_with fail
    go_ret
    exact ⟨rfl, rfl⟩

set_option maxRecDepth 100000 in
set_option maxHeartbeats 400000 in
theorem short_nil (w : World) :
    Calls Tryd.prog 46 #[.slice none 0 0] w fun e w' => e = .returned (.slice none 0 0) ∧ w = w' := by
  go_enter Tryd.func46, Tryd.ntmps46
  go_wp2_with fail
  go_ret
  exact ⟨rfl, rfl⟩

/-- 'short': the first 300 bytes at the most. -/
theorem short_any (w : World) (v : Value) (xs : List Nat) (h : Reads w v xs) :
    Calls Tryd.prog 46 #[v] w fun e w' => ∃ v', e = .returned v' ∧ Reads w v' (xs.take 300) ∧ v'.ownBlock = v.ownBlock ∧ w = w' := by
  rcases h with ⟨rfl, rfl⟩ | ⟨g, off, cap, rfl, h1, h2, h3, h4⟩
  · refine (short_nil w).mono ?_
    rintro e w' ⟨rfl, rfl⟩
    exact ⟨_, rfl, Or.inl ⟨rfl, rfl⟩, rfl, rfl⟩
  · refine (short_at w g off xs.length cap h1 (by unfold maxLen at h2; omega)).mono ?_
    rintro e w' ⟨rfl, rfl⟩
    have hr : Reads w (.slice (some ⟨g, off, none⟩) xs.length cap) xs := Or.inr ⟨g, off, cap, rfl, h1, h2, h3, h4⟩
    refine ⟨_, rfl, ?_, rfl, rfl⟩
    have := Reads.take (min xs.length 300) hr (by omega)
    have he : xs.take (min xs.length 300) = xs.take 300 := by
      rcases Nat.le_total xs.length 300 with h | h
      · rw [Nat.min_eq_left h, List.take_length, List.take_of_length_le h]
      · rw [Nat.min_eq_right h]
    rw [he] at this
    exact this

end Go.Proofs.YtljjhdfackicpaaDoor
