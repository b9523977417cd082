/-
  Slices of bytes that lie loose in memory, and lists of them.
-/
import Derived.Test.YtncieckanngodaaDoorCrcW
import Derived.Test.YtncieckanngodaaDoorArgIn
namespace Go.Proofs.YtncieckanngodaaDoor
open Go.RowKit

/-- It reads as these bytes, below block B; or it is empty, at whatever address. -/
def Loose (w : World) (v : Value) (xs : List Nat) (B : Nat) : Prop :=
  (Reads w v xs ∧ ∀ j, v.ownBlock = some j → j < B) ∨ ∃ x, v = .slice (some x) 0 0 ∧ xs = []

theorem Loose.kept {S : Nat → Prop} {a b : World} {v : Value} {xs : List Nat} {B : Nat} (h : Loose a v xs B) (hk : Kept S a b) (hS : ∀ k, k < B → ¬ S k) : Loose b v xs B := by
  rcases h with ⟨h, hb⟩ | h
  · exact Or.inl ⟨h.kept hk fun k hk => hS k (hb k hk), hb⟩
  · exact Or.inr h

theorem Loose.form {w : World} {v : Value} {xs : List Nat} {B : Nat} (h : Loose w v xs B) : ∃ a c, v = .slice a xs.length c := by
  rcases h with ⟨h, _⟩ | ⟨x, rfl, rfl⟩
  · exact h.form
  · exact ⟨_, _, rfl⟩

/-- A list of slices of bytes in memory: it is empty, or its elements lie there. -/
def LB (w : World) (v : Value) (f : Nat → Value) (F : Nat → List Nat) (N B : Nat) : Prop :=
  ((∃ a c, v = .slice a 0 c ∧ (a = none → c = 0)) ∧ N = 0) ∨
  ∃ g off cap, v = .slice (some ⟨g, off, none⟩) N cap ∧ N ≤ cap ∧ ∀ i, i < N → w.cell? ⟨g, off + i, none⟩ = some (f i) ∧ g < B ∧ Loose w (f i) (F i) B ∧ ∀ x ∈ F i, x < 256

theorem LB.kept {a b : World} {v : Value} {f : Nat → Value} {F : Nat → List Nat} {N B : Nat} (h : LB a v f F N B) (hk : Kept (fun _ => False) a b) (hB : B ≤ a.heap.size) : LB b v f F N B := by
  rcases h with h | ⟨g, off, cap, rfl, hc, h⟩
  · exact Or.inl h
  · exact Or.inr ⟨g, off, cap, rfl, hc, fun i hi => by
      obtain ⟨h1, h2, h3, h4⟩ := h i hi
      exact ⟨(hk.cell (p := ⟨g, off + i, none⟩) (by simp; omega) (fun h => h)).trans h1, h2, h3.kept hk (fun _ _ h => h), h4⟩⟩

theorem LB.form {w : World} {v : Value} {f : Nat → Value} {F : Nat → List Nat} {N B : Nat} (h : LB w v f F N B) : ∃ a c, v = .slice a N c ∧ N ≤ c := by
  rcases h with ⟨⟨a, c, rfl, _⟩, rfl⟩ | ⟨g, off, cap, rfl, hc, h⟩
  · exact ⟨a, c, rfl, Nat.zero_le _⟩
  · exact ⟨_, _, rfl, hc⟩

theorem LB.at {w : World} {a : Option Addr} {n c : Nat} {f : Nat → Value} {F : Nat → List Nat} {N B k : Nat} (h : LB w (.slice a n c) f F N B) (hk : k < N) :
    ∃ g off, a = some ⟨g, off, none⟩ ∧ g < B ∧ w.cell? ⟨g, off + k, none⟩ = some (f k) ∧ Loose w (f k) (F k) B ∧ ∀ x ∈ F k, x < 256 := by
  rcases h with ⟨_, rfl⟩ | ⟨g, off, cap, h, _, h3⟩
  · omega
  · cases h
    obtain ⟨h1, h2, h4, h5⟩ := h3 k hk
    exact ⟨g, off, rfl, h2, h1, h4, h5⟩

end Go.Proofs.YtncieckanngodaaDoor
