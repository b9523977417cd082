/-
  bits: what a slice of words reads as; possible, bit, wordsFor, word, words, Empty, trim.
-/
import Derived.Test.YtnnakllgfaaejaaGreatDoorCore
import Derived.Test.YtnnakllgfaaejaaGreatDoorRows
import Derived.Outline
import Derived.WalkLawsBesides
import Derived.WalkSpells
import Derived.BigQuiet
import Derived.IntWalk
namespace Go.Proofs.YtnnakllgfaaejaaGreatDoor
open Go.RowKit

/-- The value reads as these words: a nil slice and no word, or a slice whose cells hold them. -/
def Words (w : World) (v : Value) (xs : List Nat) : Prop :=
  (v = .slice none 0 0 ∧ xs = []) ∨
  ∃ g off cap, v = .slice (some ⟨g, off, none⟩) xs.length cap ∧ xs.length ≤ cap ∧ cap ≤ maxLen ∧ g < w.heap.size ∧
    ∀ i, i < xs.length → w.cell? ⟨g, off + i, none⟩ = some (.int .u64 (xs.getD i 0 : Nat))

theorem Words.kept {S : Nat → Prop} {a b : World} {v : Value} {xs : List Nat} (h : Words a v xs) (hk : Kept S a b) (hn : ∀ k, v.ownBlock = some k → ¬ S k) : Words b v xs := by
  rcases h with h | ⟨g, off, cap, rfl, h1, h2, h3, h4⟩
  · exact Or.inl h
  · exact Or.inr ⟨g, off, cap, rfl, h1, h2, Nat.lt_of_lt_of_le h3 hk.size, fun i hi => (hk.cell h3 (hn g rfl)).trans (h4 i hi)⟩

theorem Words.lt {w : World} {v : Value} {xs : List Nat} (h : Words w v xs) : ∀ k, v.ownBlock = some k → k < w.heap.size := by
  intro k hk
  rcases h with ⟨rfl, _⟩ | ⟨g, off, cap, rfl, _, _, h3, _⟩
  · simp [Value.ownBlock] at hk
  · simp [Value.ownBlock] at hk; subst hk; exact h3

theorem Words.form {w : World} {v : Value} {xs : List Nat} (h : Words w v xs) : ∃ a c, v = .slice a xs.length c := by
  rcases h with ⟨rfl, rfl⟩ | ⟨g, off, cap, rfl, _⟩
  · exact ⟨_, _, rfl⟩
  · exact ⟨_, _, rfl⟩

/-- A set's word number k. -/
def wd (lo : Nat) (hs : List Nat) (k : Nat) : Nat := if k = 0 then lo else hs.getD (k - 1) 0

/-- Where 'trim' stops. -/
structure TrimAt (ws : List Nat) (n : Nat) : Prop where
  le : n ≤ ws.length
  zero : ∀ i, n ≤ i → i < ws.length → ws.getD i 0 = 0
  last : n = 0 ∨ ws.getD (n - 1) 0 ≠ 0

/-- What 'trim' gives: the words up to the last one that is not 0; nil if none is left. -/
structure TrimRes (w : World) (v : Value) (ws : List Nat) (v' : Value) : Prop where
  ex : ∃ n, TrimAt ws n ∧ Words w v' (ws.take n) ∧ (n = 0 → v' = .slice none 0 0) ∧ (v'.ownBlock = none ∨ v'.ownBlock = v.ownBlock)

theorem TrimRes.form {w : World} {v : Value} {ws : List Nat} {v' : Value} (h : TrimRes w v ws v') : ∃ a n c, v' = .slice a n c := by
  obtain ⟨n, _, hw, _⟩ := h.ex
  obtain ⟨a, c, e⟩ := hw.form
  exact ⟨_, _, _, e⟩

end Go.Proofs.YtnnakllgfaaejaaGreatDoor
