/-
  arbaclaw03.short. (As in KecY and KecResets.)
-/
import Derived.Test.YtncieckanngodaaDoorCrcB
import Derived.Test.YtncieckanngodaaDoorArgIn
namespace Go.Proofs.YtncieckanngodaaDoor
open Go.RowKit

set_option maxRecDepth 100000 in
set_option maxHeartbeats 800000 in
theorem short_any (w : World) (a : Option Addr) (xs : List Nat) (c : Nat) (hp : Reads w (.slice a xs.length c) xs) :
    Calls Tryd.prog 9 #[.slice a xs.length c] w fun e w' => e = .returned (.slice a (xs.take 600).length c) ∧ w = w' := by
  have hle : xs.length ≤ c := by
    rcases hp with ⟨h, rfl⟩ | ⟨g, off, cap, h, h1, _⟩
    · simp
    · cases h; exact h1
  have hm := hp.le
  unfold maxLen at hm
  have hc : c ≤ 2 ^ 63 - 1 := by
    rcases hp with ⟨h, rfl⟩ | ⟨g, off, cap, h, h1, h2, _⟩
    · injection h with e1 e2 e3; subst e3; decide
    · cases h; exact h2
  have htl : (xs.take 600).length = Nat.min 600 xs.length := by simp
  obtain ⟨l, hl⟩ : ∃ l, l = xs.length := ⟨_, rfl⟩
  obtain ⟨n, hn⟩ : ∃ n, n = (xs.take 600).length := ⟨_, rfl⟩
  have hnl : n = Nat.min 600 l := by rw [hn, htl, hl]
  have n1 : n ≤ l := by rw [hnl]; exact Nat.min_le_right _ _
  rw [← hl] at hle hm
  rw [← hl, ← hn]
  have n2 : n ≤ c := by omega
  have hcase : (l ≤ 600 ∧ n = l) ∨ (600 < l ∧ n = 600) := by
    rcases Nat.lt_or_ge 600 l with h | h
    · exact Or.inr ⟨h, by rw [hnl]; exact Nat.min_eq_left (by omega)⟩
    · exact Or.inl ⟨h, by rw [hnl]; exact Nat.min_eq_right h⟩
  clear hnl htl hn hl hp
  rcases hcase with ⟨h1, rfl⟩ | ⟨h1, rfl⟩
  · have e : min (n : Int) 600 = (n : Int) := by omega
    have p1 : (0 : Int) ≤ n := by omega
    have p2 : (n : Int) ≤ c := by omega
    have p3 : ¬ (600 : Int) < n := by omega
    go_enter Tryd.func9, Tryd.ntmps9
    go_wp2_with fail
    go_ret
    exact ⟨rfl, rfl⟩
  · have e : min (l : Int) 600 = 600 := by omega
    have p2 : (600 : Int) ≤ c := by omega
    have p3 : (600 : Int) < l := by omega
    go_enter Tryd.func9, Tryd.ntmps9
    go_wp2_with fail
    go_ret
    exact ⟨rfl, rfl⟩

theorem short_in {w : World} {a : Option Addr} {xs : List Nat} {c : Nat} (h : InBytes w (.slice a xs.length c) xs) : Reads w (.slice a (xs.take 600).length c) (xs.take 600) := by
  have := h.reads.takeV (Nat.min 600 xs.length) (Nat.min_le_right _ _)
  rw [show xs.take (Nat.min 600 xs.length) = xs.take 600 by
    rcases Nat.lt_or_ge 600 xs.length with h | h
    · rw [show Nat.min 600 xs.length = 600 from Nat.min_eq_left (by omega)]
    · rw [show Nat.min 600 xs.length = xs.length from Nat.min_eq_right h, List.take_length, List.take_of_length_le h]] at this
  rwa [show Nat.min 600 xs.length = (xs.take 600).length by simp] at this
theorem take600 (xs : List Nat) : (xs.take 600).length ≤ 600 := by simp; omega

end Go.Proofs.YtncieckanngodaaDoor
