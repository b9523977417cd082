/-
  bits.Of: the set of some numbers.
-/
import Derived.Test.YtnnakllgfaaejaaGreatDoorWords
import Derived.Test.YtnnakllgfaaejaaGreatDoorSetM
import Derived.Deep.RegionHeld3
import Derived.Deep.RegionLaw
import Derived.BigRegion
import Derived.OwnWalk
import Derived.Laws.BitsAllLaws
namespace Go.Proofs.YtnnakllgfaaejaaGreatDoor
open Go.RowKit

/-- The value reads as these numbers. -/
def Ints (w : World) (v : Value) (xs : List Int) : Prop :=
  (v = .slice none 0 0 ∧ xs = []) ∨
  ∃ g off cap, v = .slice (some ⟨g, off, none⟩) xs.length cap ∧ xs.length ≤ cap ∧ cap ≤ maxLen ∧ g < w.heap.size ∧
    ∀ i, i < xs.length → w.cell? ⟨g, off + i, none⟩ = some (.int .i64 (xs.getD i 0))

theorem Ints.kept {S : Nat → Prop} {a b : World} {v : Value} {xs : List Int} (h : Ints a v xs) (hk : Kept S a b) (hn : ∀ k, v.ownBlock = some k → ¬ S k) : Ints b v xs := by
  rcases h with h | ⟨g, off, cap, rfl, h1, h2, h3, h4⟩
  · exact Or.inl h
  · exact Or.inr ⟨g, off, cap, rfl, h1, h2, Nat.lt_of_lt_of_le h3 hk.size, fun i hi => (hk.cell h3 (hn g rfl)).trans (h4 i hi)⟩

/-- The value is the set of the number M. -/
structure SetV (w : World) (v : Value) (M : Nat) : Prop where
  ex : ∃ hv hs, v = .agg #[.int .u64 (M % 2 ^ 64 : Nat), hv] ∧ Words w hv hs ∧ Canon hs (M / 2 ^ 64) ∧ (hs = [] → hv = .slice none 0 0)

/-- The blocks that a set lies in. -/
def setBlk (v : Value) (k : Nat) : Prop := ∃ lo hv, v = .agg #[lo, hv] ∧ hv.ownBlock = some k

theorem TrimAt.canon {M m n : Nat} (h : TrimAt (wl M m) n) (hM : M < 2 ^ (64 * m)) : Canon ((wl M m).take n) M := by
  have hle := h.le
  rw [wl_length] at hle
  rw [wl_take _ _ _ hle]
  refine ⟨by rw [wl_length], ?_, ?_⟩
  · rw [wl_length]
    exact zero_above M m n hM (fun i h1 h2 => by rw [← wl_getD M m i h2]; exact h.zero i h1 (by rw [wl_length]; exact h2)) hle
  · rw [wl_length]
    rcases h.last with h0 | h0
    · exact Or.inl h0
    · by_cases hn : n = 0
      · exact Or.inl hn
      · rw [wl_getD _ _ _ (by omega)] at h0
        exact Or.inr fun e => h0 (by rw [e])

/-- What 'pack' gives of words whose first one is lo. -/
structure PackRes (w : World) (g : Nat) (ws : List Nat) (hv : Value) : Prop where
  ex : ∃ t, TrimAt (ws.drop 1) t ∧ Words w hv ((ws.drop 1).take t) ∧ (t = 0 → hv = .slice none 0 0) ∧ (hv.ownBlock = none ∨ hv.ownBlock = some g)

/-- The cells of a list of words. -/
def wv (xs : List Nat) : List Value := xs.map fun n : Nat => Value.int .u64 (n : Int)

theorem info_u64 : (Tryz.prog.info? 93).map (fun i => (i.zero, i.size, i.bytes)) = some (some (.int .u64 0), 1, 8) := by kernel_rfl

theorem wv_zero (n : Nat) : (madeCells #[Value.int .u64 0] n).toList = wv (List.replicate n 0) := by
  refine List.ext_getElem (by simp [madeCells, wv]) fun i h1 h2 => ?_
  simp [madeCells, wv, Nat.mod_one]

theorem wv_length (xs : List Nat) : (wv xs).length = xs.length := by simp [wv]
theorem wv_getD (xs : List Nat) (i : Nat) (h : i < xs.length) : (wv xs)[i]? = some (.int .u64 (xs.getD i 0 : Nat)) := by simp [wv, List.getD, h]
theorem wv_set (xs : List Nat) (i z : Nat) : (wv xs).set i (.int .u64 (z : Int)) = wv (xs.set i z) := by simp [wv]

end Go.Proofs.YtnnakllgfaaejaaGreatDoor
