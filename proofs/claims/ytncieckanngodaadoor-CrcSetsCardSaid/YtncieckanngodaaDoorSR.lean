/-
  A row of sets of the call's own (two cells an element).
-/
import Derived.Test.YtncieckanngodaaDoorRSet
import Derived.Test.YtncieckanngodaaDoorBWith
namespace Go.Proofs.YtncieckanngodaaDoor
open Go.RowKit

/-- A set of its low word and its further words. -/
def pairV (p : Nat × Value) : Value := .agg #[.int .u64 p.1, p.2]
/-- The cells of a list of sets. -/
def flatS (vs : List (Nat × Value)) : List Value := vs.flatMap fun p => [.int .u64 (p.1 : Int), p.2]

theorem flatS_append (a b : List (Nat × Value)) : flatS (a ++ b) = flatS a ++ flatS b := by simp [flatS]
theorem flatS_length (vs : List (Nat × Value)) : (flatS vs).length = 2 * vs.length := by
  induction vs with
  | nil => rfl
  | cons x t ih =>
    have : flatS (x :: t) = [.int .u64 (x.1 : Int), x.2] ++ flatS t := rfl
    rw [this, List.length_append, ih]
    simp; omega
theorem flatS_at (vs : List (Nat × Value)) : ∀ i, i < vs.length → (flatS vs)[2 * i]? = some (.int .u64 ((vs.getD i (0, undef)).1 : Int)) ∧ (flatS vs)[2 * i + 1]? = some (vs.getD i (0, undef)).2 := by
  induction vs with
  | nil => intro i hi; simp at hi
  | cons x t ih =>
    intro i hi
    have e : flatS (x :: t) = .int .u64 (x.1 : Int) :: x.2 :: flatS t := rfl
    rw [e]
    cases i with
    | zero => exact ⟨rfl, rfl⟩
    | succ j =>
      have := ih j (by simpa using hi)
      rw [show 2 * (j + 1) = 2 * j + 1 + 1 by omega]
      exact this

structure SetsR (w : World) (B : Nat) (v : Value) (vs : List (Nat × Value)) (Ms : List Nat) : Prop where
  own : w.ownsRow B 54 2 v vs.length (flatS vs)
  len : vs.length = Ms.length
  el : ∀ i, i < Ms.length → SetV w (pairV (vs.getD i (0, undef))) (Ms.getD i 0)
  apart : ∀ i, i < Ms.length → ∀ k, setBlk (pairV (vs.getD i (0, undef))) k → v.ownBlock ≠ some k

theorem SetsR.nil (w : World) (B : Nat) : SetsR w B (.slice none 0 0) [] [] :=
  ⟨World.ownsRow_nil _ _ _ _, rfl, fun i hi => by simp at hi, fun i hi => by simp at hi⟩

theorem SetsR.kept {S : Nat → Prop} {a b : World} {B : Nat} {v : Value} {vs : List (Nat × Value)} {Ms : List Nat} (h : SetsR a B v vs Ms) (hk : Kept S a b) (hS : ∀ k, k < a.heap.size → ¬ S k) : SetsR b B v vs Ms :=
  ⟨hk.owns h.own (fun k hb => hS k (h.own.lt k hb).2), h.len, fun i hi => (h.el i hi).kept hk (fun k hb => hS k ((h.el i hi).lt k hb)), h.apart⟩

theorem SetsR.push {w w1 : World} {B : Nat} {v v' : Value} {vs : List (Nat × Value)} {Ms : List Nat} {p : Nat × Value} {M : Nat} (h : SetsR w B v vs Ms) (hp : SetV w (pairV p) M) (hpa : ∀ k, setBlk (pairV p) k → v.ownBlock ≠ some k) (hk : Kept (blk v) w w1)
    (hown : w1.ownsRow B 54 2 v' (vs.length + 1) (flatS vs ++ [.int .u64 (p.1 : Int), p.2])) (hat : v'.ownBlock = v.ownBlock ∨ ∀ k, v'.ownBlock = some k → w.heap.size ≤ k) : SetsR w1 B v' (vs ++ [p]) (Ms ++ [M]) := by
  have hl := h.len
  have g1 : ∀ i, i < Ms.length → (vs ++ [p]).getD i (0, undef) = vs.getD i (0, undef) ∧ (Ms ++ [M]).getD i 0 = Ms.getD i 0 := fun i hi => by
    simp [List.getD, List.getElem?_append_left (show i < vs.length by omega), List.getElem?_append_left hi]
  have g2 : (vs ++ [p]).getD Ms.length (0, undef) = p ∧ (Ms ++ [M]).getD Ms.length 0 = M := by
    rw [← hl]
    refine ⟨by simp [List.getD], ?_⟩
    rw [hl]; simp [List.getD]
  refine ⟨by rw [List.length_append, flatS_append]; exact hown, by simp [hl], fun i hi => ?_, fun i hi k hb => ?_⟩
  · by_cases h1 : i < Ms.length
    · rw [(g1 i h1).1, (g1 i h1).2]
      exact (h.el i h1).kept hk fun k hb e => h.apart i h1 k hb e
    · obtain rfl : i = Ms.length := by simp at hi; omega
      rw [g2.1, g2.2]
      exact hp.kept hk fun k hb e => hpa k hb e
  · by_cases h1 : i < Ms.length
    · rw [(g1 i h1).1] at hb
      rcases hat with e | e
      · rw [e]; exact h.apart i h1 k hb
      · intro e2; have := e k e2; have := (h.el i h1).lt k hb; omega
    · obtain rfl : i = Ms.length := by simp at hi; omega
      rw [g2.1] at hb
      rcases hat with e | e
      · rw [e]; exact hpa k hb
      · intro e2; have := e k e2; have := hp.lt k hb; omega

/-- The cells of element i. -/
theorem SetsR.at {w : World} {B g n c : Nat} {vs : List (Nat × Value)} {Ms : List Nat} (h : SetsR w B (.slice (some ⟨g, 0, none⟩) n c) vs Ms) {i : Nat} (hi : i < Ms.length) :
    w.cell? ⟨g, 2 * i, none⟩ = some (.int .u64 ((vs.getD i (0, undef)).1 : Int)) ∧ w.cell? ⟨g, 2 * i + 1, none⟩ = some (vs.getD i (0, undef)).2 := by
  have hl := h.len
  have ho := h.own
  have hn : n = vs.length := by
    obtain ⟨_, hh⟩ := ho
    rcases hh with ⟨e, _⟩ | ⟨g', cap', cur, e, _⟩
    · cases e
    · cases e; rfl
  subst hn
  have ⟨a, b⟩ := flatS_at vs i (by omega)
  exact ⟨(ho.cellAt (2 * i) (by omega)).trans a, (ho.cellAt (2 * i + 1) (by omega)).trans b⟩
end Go.Proofs.YtncieckanngodaaDoor
