/-
  Assignments: rows of entries of three numbers in memory.
-/
import Derived.Test.YtccanbjnbmihgaaDoorCore
import Derived.Test.YtccanbjnbmihgaaDoorRows
import Derived.Deep.AppendLies
import Derived.Laws.OwnMore
namespace Go.Proofs.YtccanbjnbmihgaaDoor
open Go.RowKit
set_option linter.unusedSimpArgs false
set_option linter.unusedVariables false

/-- An entry: its user, its role, its last day. -/
structure Ent where
  u : Int
  r : Int
  t : Int
def ent0 : Ent := ⟨0, 0, 0⟩
def entC (x : Ent) : List Value := [.int .i64 x.u, .int .i64 x.r, .int .i64 x.t]
def entV (x : Ent) : Value := .agg #[.int .i64 x.u, .int .i64 x.r, .int .i64 x.t]
def flatE (l : List Ent) : List Value := l.flatMap entC
theorem flatE_append (a b : List Ent) : flatE (a ++ b) = flatE a ++ flatE b := by simp [flatE]
theorem flatE_length (l : List Ent) : (flatE l).length = l.length * 3 := by
  induction l with
  | nil => rfl
  | cons x t ih =>
    have : flatE (x :: t) = entC x ++ flatE t := rfl
    rw [this, List.length_append, ih]
    simp [entC]; omega
theorem flatE_at (l : List Ent) : ∀ i, i < l.length → (flatE l)[i * 3]? = some (.int .i64 (l.getD i ent0).u) ∧ (flatE l)[i * 3 + 1]? = some (.int .i64 (l.getD i ent0).r) ∧ (flatE l)[i * 3 + 2]? = some (.int .i64 (l.getD i ent0).t) := by
  induction l with
  | nil => intro i hi; simp at hi
  | cons x t ih =>
    intro i hi
    have e : flatE (x :: t) = .int .i64 x.u :: .int .i64 x.r :: .int .i64 x.t :: flatE t := rfl
    rw [e]
    cases i with
    | zero => exact ⟨rfl, rfl, rfl⟩
    | succ j =>
      have := ih j (by simpa using hi)
      rw [show (j + 1) * 3 = j * 3 + 1 + 1 + 1 by omega]
      exact this

/-- An entry in memory. -/
structure EntAt (w : World) (g o : Nat) (x : Ent) : Prop where
  c0 : w.cell? ⟨g, o, none⟩ = some (.int .i64 x.u)
  c1 : w.cell? ⟨g, o + 1, none⟩ = some (.int .i64 x.r)
  c2 : w.cell? ⟨g, o + 2, none⟩ = some (.int .i64 x.t)
theorem EntAt.kept {S : Nat → Prop} {a b : World} {g o : Nat} {x : Ent} (h : EntAt a g o x) (hk : Kept S a b) (hS : ¬ S g) : EntAt b g o x :=
  ⟨(hk.cell (World.block_lt_of_cell? a _ h.c0) hS).trans h.c0, (hk.cell (World.block_lt_of_cell? a _ h.c1) hS).trans h.c1, (hk.cell (World.block_lt_of_cell? a _ h.c2) hS).trans h.c2⟩
/-- A value that reads as a row of entries. -/
def Ents (w : World) (v : Value) (l : List Ent) : Prop :=
  (v = .slice none 0 0 ∧ l = []) ∨
  ∃ g off cap, v = .slice (some ⟨g, off, none⟩) l.length cap ∧ l.length ≤ cap ∧ cap ≤ maxLen ∧ g < w.heap.size ∧ ∀ i, i < l.length → EntAt w g (off + i * 3) (l.getD i ent0)
theorem Ents.kept {S : Nat → Prop} {a b : World} {v : Value} {l : List Ent} (h : Ents a v l) (hk : Kept S a b) (hn : ∀ k, v.ownBlock = some k → ¬ S k) : Ents b v l := by
  rcases h with h | ⟨g, off, cap, rfl, h1, h2, h3, h4⟩
  · exact Or.inl h
  · exact Or.inr ⟨g, off, cap, rfl, h1, h2, Nat.lt_of_lt_of_le h3 hk.size, fun i hi => (h4 i hi).kept hk (hn g rfl)⟩
theorem Ents.form {w : World} {v : Value} {l : List Ent} (h : Ents w v l) : ∃ a c, v = .slice a l.length c ∧ l.length ≤ c ∧ c ≤ maxLen := by
  rcases h with ⟨rfl, rfl⟩ | ⟨g, off, cap, rfl, h1, h2, _⟩
  · exact ⟨_, _, rfl, Nat.le_refl _, Nat.zero_le _⟩
  · exact ⟨_, _, rfl, h1, h2⟩
theorem Ents.at {w : World} {a : Option Addr} {n c k : Nat} {l : List Ent} (h : Ents w (.slice a n c) l) (hk : k < l.length) :
    ∃ g off, a = some ⟨g, off, none⟩ ∧ g < w.heap.size ∧ EntAt w g (off + k * 3) (l.getD k ent0) := by
  rcases h with ⟨_, rfl⟩ | ⟨g, off, cap, h, _, _, h3, h4⟩
  · simp at hk
  · cases h
    exact ⟨g, off, rfl, h3, h4 k hk⟩
/-- The first entries of a row. -/
theorem Ents.cut {w : World} {a : Option Addr} {n c : Nat} {l : List Ent} (h : Ents w (.slice a n c) l) (m : Nat) (hm : m ≤ l.length) : Ents w (.slice a m c) (l.take m) := by
  rcases h with ⟨h, rfl⟩ | ⟨g, off, cap, h, h1, h2, h3, h4⟩
  · cases h
    have : m = 0 := by simpa using hm
    subst this
    exact Or.inl ⟨rfl, rfl⟩
  · cases h
    have e : (l.take m).length = m := by rw [List.length_take]; omega
    refine Or.inr ⟨g, off, c, by rw [e], by omega, h2, h3, fun i hi => ?_⟩
    have e2 : (l.take m).getD i ent0 = l.getD i ent0 := by
      rw [e] at hi
      simp [List.getD, List.getElem?_take_of_lt hi]
    rw [e2]
    exact h4 i (by omega)

/-- A row of entries of the call's own. -/
def OwnE (T : TypeId) (B : Nat) (w : World) (v : Value) (l : List Ent) : Prop := w.ownsRow B T 3 v l.length (flatE l)
theorem OwnE.nil (T : TypeId) (B : Nat) (w : World) : OwnE T B w (.slice none 0 0) [] := World.ownsRow_nil _ _ _ _
theorem OwnE.kept {S : Nat → Prop} {T : TypeId} {B : Nat} {a b : World} {v : Value} {l : List Ent} (h : OwnE T B a v l) (hk : Kept S a b) (hn : ∀ k, v.ownBlock = some k → ¬ S k) : OwnE T B b v l :=
  hk.owns h hn
theorem OwnE.ents {T : TypeId} {B : Nat} {w : World} {v : Value} {l : List Ent} (h : OwnE T B w v l) : Ents w v l := by
  have h0 := h
  rcases h.2 with ⟨rfl, h2⟩ | ⟨g, cap, cur, rfl, hb, hg, h1, h2, _⟩
  · exact Or.inl ⟨rfl, List.eq_nil_of_length_eq_zero h2⟩
  · have hlt : g < w.heap.size := (h.lt g rfl).2
    refine Or.inr ⟨g, 0, cap, rfl, h1, h2, hlt, fun i hi => ?_⟩
    have ⟨a0, a1, a2⟩ := flatE_at l i hi
    unfold OwnE at h0
    rw [Nat.zero_add]
    exact ⟨(h0.cellAt (i * 3) (by omega)).trans a0, (h0.cellAt (i * 3 + 1) (by omega)).trans a1, (h0.cellAt (i * 3 + 2) (by omega)).trans a2⟩
theorem OwnE.form {T : TypeId} {B : Nat} {w : World} {v : Value} {l : List Ent} (h : OwnE T B w v l) : ∃ a c, v = .slice a l.length c ∧ l.length ≤ c ∧ c ≤ maxLen := h.ents.form
theorem OwnE.push {T : TypeId} {B : Nat} {w : World} {v : Value} {l : List Ent} {x : Ent} (h : w.ownsRow B T 3 v (l.length + 1) (flatE l ++ entC x)) : OwnE T B w v (l ++ [x]) := by
  unfold OwnE
  rw [flatE_append, List.length_append]
  have : flatE [x] = entC x := by simp [flatE]
  rw [this]; exact h

end Go.Proofs.YtccanbjnbmihgaaDoor
