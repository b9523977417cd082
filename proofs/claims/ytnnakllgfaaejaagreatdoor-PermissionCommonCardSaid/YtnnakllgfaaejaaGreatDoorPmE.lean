/-
  Permissions: rows of them in memory (two texts and a flag).
-/
import Derived.Test.YtnnakllgfaaejaaGreatDoorPmM
import Derived.Deep.AppendLies
import Derived.Laws.OwnMore
import Derived.Laws.AppendOwnNone
import Derived.Maps.AppendAt
import Derived.Lib.Hide
namespace Go.Proofs.YtnnakllgfaaejaaGreatDoor
open Go.RowKit
set_option linter.unusedSimpArgs false
set_option linter.unusedVariables false

def perC (x : Per) : List Value := [.string x.a, .string x.p, .bool x.d]
def perV (x : Per) : Value := .agg #[.string x.a, .string x.p, .bool x.d]
def flatQ (l : List Per) : List Value := l.flatMap perC
theorem flatQ_append (a b : List Per) : flatQ (a ++ b) = flatQ a ++ flatQ b := by simp [flatQ]
theorem flatQ_length (l : List Per) : (flatQ l).length = l.length * 3 := by
  induction l with
  | nil => rfl
  | cons x t ih =>
    have : flatQ (x :: t) = perC x ++ flatQ t := rfl
    rw [this, List.length_append, ih]
    simp [perC]; omega
theorem flatQ_at (l : List Per) : ∀ i, i < l.length → (flatQ l)[i * 3]? = some (.string (l.getD i per0).a) ∧ (flatQ l)[i * 3 + 1]? = some (.string (l.getD i per0).p) ∧ (flatQ l)[i * 3 + 2]? = some (.bool (l.getD i per0).d) := by
  induction l with
  | nil => intro i hi; simp at hi
  | cons x t ih =>
    intro i hi
    have e : flatQ (x :: t) = .string x.a :: .string x.p :: .bool x.d :: flatQ t := rfl
    rw [e]
    cases i with
    | zero => exact ⟨rfl, rfl, rfl⟩
    | succ j =>
      have := ih j (by simpa using hi)
      rw [show (j + 1) * 3 = j * 3 + 1 + 1 + 1 by omega]
      exact this

/-- An permission in memory. -/
structure PerAt (w : World) (g o : Nat) (x : Per) : Prop where
  c0 : w.cell? ⟨g, o, none⟩ = some (.string x.a)
  c1 : w.cell? ⟨g, o + 1, none⟩ = some (.string x.p)
  c2 : w.cell? ⟨g, o + 2, none⟩ = some (.bool x.d)
theorem PerAt.kept {S : Nat → Prop} {a b : World} {g o : Nat} {x : Per} (h : PerAt a g o x) (hk : Kept S a b) (hS : ¬ S g) : PerAt b g o x :=
  ⟨(hk.cell (World.block_lt_of_cell? a _ h.c0) hS).trans h.c0, (hk.cell (World.block_lt_of_cell? a _ h.c1) hS).trans h.c1, (hk.cell (World.block_lt_of_cell? a _ h.c2) hS).trans h.c2⟩
/-- A value that reads as a row of permissions. -/
def Pers (w : World) (v : Value) (l : List Per) : Prop :=
  (v = .slice none 0 0 ∧ l = []) ∨
  ∃ g off cap, v = .slice (some ⟨g, off, none⟩) l.length cap ∧ l.length ≤ cap ∧ cap ≤ maxLen ∧ g < w.heap.size ∧ ∀ i, i < l.length → PerAt w g (off + i * 3) (l.getD i per0)
theorem Pers.kept {S : Nat → Prop} {a b : World} {v : Value} {l : List Per} (h : Pers a v l) (hk : Kept S a b) (hn : ∀ k, v.ownBlock = some k → ¬ S k) : Pers b v l := by
  rcases h with h | ⟨g, off, cap, rfl, h1, h2, h3, h4⟩
  · exact Or.inl h
  · exact Or.inr ⟨g, off, cap, rfl, h1, h2, Nat.lt_of_lt_of_le h3 hk.size, fun i hi => (h4 i hi).kept hk (hn g rfl)⟩
theorem Pers.form {w : World} {v : Value} {l : List Per} (h : Pers w v l) : ∃ a c, v = .slice a l.length c ∧ l.length ≤ c ∧ c ≤ maxLen := by
  rcases h with ⟨rfl, rfl⟩ | ⟨g, off, cap, rfl, h1, h2, _⟩
  · exact ⟨_, _, rfl, Nat.le_refl _, Nat.zero_le _⟩
  · exact ⟨_, _, rfl, h1, h2⟩
theorem Pers.at {w : World} {a : Option Addr} {n c k : Nat} {l : List Per} (h : Pers w (.slice a n c) l) (hk : k < l.length) :
    ∃ g off, a = some ⟨g, off, none⟩ ∧ g < w.heap.size ∧ PerAt w g (off + k * 3) (l.getD k per0) := by
  rcases h with ⟨_, rfl⟩ | ⟨g, off, cap, h, _, _, h3, h4⟩
  · simp at hk
  · cases h
    exact ⟨g, off, rfl, h3, h4 k hk⟩
/-- The first permissions of a row. -/
theorem Pers.cut {w : World} {a : Option Addr} {n c : Nat} {l : List Per} (h : Pers w (.slice a n c) l) (m : Nat) (hm : m ≤ l.length) : Pers w (.slice a m c) (l.take m) := by
  rcases h with ⟨h, rfl⟩ | ⟨g, off, cap, h, h1, h2, h3, h4⟩
  · cases h
    have : m = 0 := by simpa using hm
    subst this
    exact Or.inl ⟨rfl, rfl⟩
  · cases h
    have e : (l.take m).length = m := by rw [List.length_take]; omega
    refine Or.inr ⟨g, off, c, by rw [e], by omega, h2, h3, fun i hi => ?_⟩
    have e2 : (l.take m).getD i per0 = l.getD i per0 := by
      rw [e] at hi
      simp [List.getD, List.getElem?_take_of_lt hi]
    rw [e2]
    exact h4 i (by omega)

/-- A row of permissions of the call's own. -/
def OwnQ (T : TypeId) (B : Nat) (w : World) (v : Value) (l : List Per) : Prop := w.ownsRow B T 3 v l.length (flatQ l)
theorem OwnQ.nil (T : TypeId) (B : Nat) (w : World) : OwnQ T B w (.slice none 0 0) [] := World.ownsRow_nil _ _ _ _
theorem OwnQ.kept {S : Nat → Prop} {T : TypeId} {B : Nat} {a b : World} {v : Value} {l : List Per} (h : OwnQ T B a v l) (hk : Kept S a b) (hn : ∀ k, v.ownBlock = some k → ¬ S k) : OwnQ T B b v l :=
  hk.owns h hn
theorem OwnQ.pers {T : TypeId} {B : Nat} {w : World} {v : Value} {l : List Per} (h : OwnQ T B w v l) : Pers w v l := by
  have h0 := h
  rcases h.2 with ⟨rfl, h2⟩ | ⟨g, cap, cur, rfl, hb, hg, h1, h2, _⟩
  · exact Or.inl ⟨rfl, List.eq_nil_of_length_eq_zero h2⟩
  · have hlt : g < w.heap.size := (h.lt g rfl).2
    refine Or.inr ⟨g, 0, cap, rfl, h1, h2, hlt, fun i hi => ?_⟩
    have ⟨a0, a1, a2⟩ := flatQ_at l i hi
    unfold OwnQ at h0
    rw [Nat.zero_add]
    exact ⟨(h0.cellAt (i * 3) (by omega)).trans a0, (h0.cellAt (i * 3 + 1) (by omega)).trans a1, (h0.cellAt (i * 3 + 2) (by omega)).trans a2⟩
theorem OwnQ.form {T : TypeId} {B : Nat} {w : World} {v : Value} {l : List Per} (h : OwnQ T B w v l) : ∃ a c, v = .slice a l.length c ∧ l.length ≤ c ∧ c ≤ maxLen := h.pers.form
theorem OwnQ.push {T : TypeId} {B : Nat} {w : World} {v : Value} {l : List Per} {x : Per} (h : w.ownsRow B T 3 v (l.length + 1) (flatQ l ++ perC x)) : OwnQ T B w v (l ++ [x]) := by
  unfold OwnQ
  rw [flatQ_append, List.length_append]
  have : flatQ [x] = perC x := by simp [flatQ]
  rw [this]; exact h

theorem Pers.flat {w : World} {g off n c : Nat} {l : List Per} (h : Pers w (.slice (some ⟨g, off, none⟩) n c) l) : ∀ j u, (flatQ l)[j]? = some u → w.cell? ⟨g, off + j, none⟩ = some u := fun j u hu => by
  have hj : j < l.length * 3 := by
    have := (List.getElem?_eq_some_iff.1 hu).1
    rwa [flatQ_length] at this
  rcases h with ⟨h, _⟩ | ⟨g', off', cap, h, _, _, _, h4⟩
  · cases h
  · cases h
    have hi : j / 3 < l.length := by omega
    obtain ⟨a0, a1, a2⟩ := flatQ_at l (j / 3) hi
    obtain ⟨c0, c1, c2⟩ := h4 (j / 3) hi
    have hr : j % 3 = 0 ∨ j % 3 = 1 ∨ j % 3 = 2 := by omega
    rcases hr with e | e | e
    · rw [show j = j / 3 * 3 by omega] at hu ⊢
      rw [a0] at hu; injection hu with hu; subst hu; exact c0
    · rw [show j = j / 3 * 3 + 1 by omega] at hu ⊢
      rw [a1] at hu; injection hu with hu; subst hu; exact c1
    · rw [show j = j / 3 * 3 + 2 by omega] at hu ⊢
      rw [a2] at hu; injection hu with hu; subst hu; exact c2
theorem flatQ_one (l : List Per) : ∀ u ∈ flatQ l, u.oneCell' = true := fun u hu => by
  simp only [flatQ, List.mem_flatMap, perC, List.mem_cons, List.mem_nil_iff, or_false] at hu
  obtain ⟨x, _, rfl | rfl | rfl⟩ := hu <;> rfl


/-- An append of permissions that read. -/
theorem append_pers_run {ts te : TypeId} (hu : Tryz.prog.underlying ts = some (.slice te)) (hie : (Tryz.prog.info? te).map (fun i => (i.zero, i.size, i.bytes)) = some (some (.agg #[.string ⟨#[]⟩, .string ⟨#[]⟩, .bool false]), 3, 40))
    {W : World} {B : Nat} {v y : Value} {xs ys : List Per} (h : OwnQ te B W v xs) (hy : Pers W y ys) (hl : xs.length + ys.length ≤ 1000000) (hB : B ≤ W.heap.size) :
    ∃ a c w', (Builtin.append_ #[ts, ts] ts #[v, y]).run Tryz.prog W = .ok (.slice a (xs ++ ys).length c) w' ∧ OwnQ te B w' (.slice a (xs ++ ys).length c) (xs ++ ys) ∧ Kept (fun k => v.ownBlock = some k) W w' := by
  obtain ⟨i0, hi, hz0, hz1, hz2⟩ := info_parts hie
  have key : ∃ v' w', (Builtin.append_ #[ts, ts] ts #[v, y]).run Tryz.prog W = .ok v' w' ∧ OwnQ te B w' v' (xs ++ ys) ∧ Kept (fun k => v.ownBlock = some k) W w' := by
    have hy0 := hy
    rcases hy with ⟨rfl, rfl⟩ | ⟨g, off, cap, rfl, h1, h2, h3, h4⟩
    · exact ⟨v, W, run_append_owned_none W B ts ts te i0 3 hu hi v _ _ h, by rw [List.append_nil]; exact h, Kept.refl _ _⟩
    · have hcells : ∀ j u, (flatQ ys)[j]? = some u → W.cell? ((⟨g, off, none⟩ : Addr).add j) = some u := fun j u hu => by
        have hadd : (⟨g, off, none⟩ : Addr).add j = ⟨g, off + j, none⟩ := by unfold Addr.add; split <;> simp_all
        rw [hadd]
        exact hy0.flat j u hu
      obtain ⟨v', w', hr, ho, hg, _, hat⟩ := run_append_own_at (P := Tryz.prog) W B ts ts te i0 _ 3 40 hu hi hz0 hz1 hz2 rfl (by omega) v xs.length (flatQ xs) h ⟨g, off, none⟩ ys.length cap (flatQ ys)
        (flatQ_length ys) hcells (flatQ_one ys) (by unfold maxLen; omega) (by omega) hB
      exact ⟨v', w', hr, by unfold OwnQ; rw [List.length_append, flatQ_append]; exact ho, Kept.ofGrown hg fun k e => e⟩
  obtain ⟨v', w', hr, hf, hk⟩ := key
  obtain ⟨a, c, rfl, _, _⟩ := hf.form
  exact ⟨a, c, w', hr, hf, hk⟩


end Go.Proofs.YtnnakllgfaaejaaGreatDoor
