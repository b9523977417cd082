/-
  Trees of paths in memory: what their maps say; maps.Copy, copied, NewTree, Len.
-/
import Derived.Test.YtcooacjpblhblaaDoorPaO
import Derived.Maps.Own
import Derived.Maps.OwnSet
import Derived.Maps.OwnOps
import Derived.Maps.RangeWalk
import Derived.Maps.Ext
import Derived.Laws.BytesArg
import Derived.StillTailTactics
namespace Go.Proofs.YtcooacjpblhblaaDoor
open Go.RowKit Go.Maps Go.WideMaps Go.ChangeMaps
set_option linter.unusedSimpArgs false
set_option linter.unusedVariables false

theorem lawT : Keyed Tryd.prog 9 := string_keyed Tryd.underlying9
theorem zeroBl (w : World) : (zeroValue 4).run Tryd.prog w = .ok (.bool false) w := by kernel_rfl
theorem pl_bool (x : Bool) : plainElem (H := Unit) Tryd.prog 4 (.bool x) = some (.lit (.bool x), []) := plainElem_bool Tryd.underlying4 x
set_option maxRecDepth 100000 in
theorem pl_bool_inv {v : Value} {z : DataW Unit × List MemPlace} (h : plainElem Tryd.prog 4 v = some z) : ∃ x, v = .bool x ∧ z = (.lit (.bool x), []) := by
  unfold plainElem at h
  rw [Tryd.underlying4] at h
  cases v <;> simp at h
  exact ⟨_, rfl, h.symm⟩
set_option maxRecDepth 100000 in
theorem key_invT {v : Value} {kl : Lit} (h : keyOf Tryd.prog 9 v = some kl) : ∃ s : ByteArray, v = .string s ∧ kl = .string s.data.toList ∧ s.size ≤ maxLen := by
  rw [keyOf_string Tryd.underlying9] at h
  unfold mapKey at h
  cases v <;> simp [Tryd.underlying9] at h
  rename_i s
  exact ⟨s, rfl, h.2.symm, h.1⟩
theorem key_neT {s y : ByteArray} (h : s ≠ y) : Lit.string s.data.toList ≠ Lit.string y.data.toList := fun e => by
  injection e with e
  exact h (str_ext e)

/-- A bool's value by a number (the walk parts a '∀' over Bool). -/
def vB (c : Nat) : Value := .bool (decide (c = 1))
theorem pl_vB_inv {v : Value} {z : DataW Unit × List MemPlace} (h : plainElem Tryd.prog 4 v = some z) : ∃ c, v = vB c := by
  obtain ⟨x, rfl, _⟩ := pl_bool_inv h
  cases x with
  | false => exact ⟨0, rfl⟩
  | true => exact ⟨1, rfl⟩

abbrev OwnMB (w : World) (m n : Nat) (D : DataW Unit) : Prop := w.ownsMap Tryd.prog 9 (plainElem Tryd.prog 4) m n D
theorem ownMB_kept {S : Nat → Prop} {a b : World} {m n : Nat} {D : DataW Unit} (h : OwnMB a m n D) (hk : Kept S a b) (hn : ¬ S m) : OwnMB b m n D := by
  have hlt := h.lt
  obtain ⟨es, clock, h1, h2⟩ := h
  exact ⟨es, clock, (hk.block m hlt hn).trans h1, h2⟩

/-- What a tree's map says: which paths it has. -/
def MapB (D : DataW Unit) (M : ByteArray → Bool) : Prop :=
  ∀ s : ByteArray, Maps.has D (.string s.data.toList) = M s ∧ (D.atKey (.string s.data.toList) (.lit (.bool false)) = .lit (.bool (M s)))
theorem MapB.nil : MapB (.map []) (fun _ => false) := fun s => ⟨by simp [Maps.has], rfl⟩
theorem MapB.put {D : DataW Unit} {M : ByteArray → Bool} (y : ByteArray) (h : MapB D M) (hD : IsMap D) : MapB (D.put (.string y.data.toList) (.lit (.bool true))) (fun s => decide (s = y) || M s) := fun s => by
  by_cases e : s = y
  · subst e
    exact ⟨by rw [has_put_same (k := .string s.data.toList) hD trivial]; simp, by rw [atKey_put_same (k := .string s.data.toList) hD trivial]; simp⟩
  · rw [has_put_other (key_neT e), atKey_put_other (key_neT e)]
    simp [e]
    exact h s
theorem MapB.del {D : DataW Unit} {M : ByteArray → Bool} (y : ByteArray) (h : MapB D M) : MapB (D.del (.string y.data.toList)) (fun s => decide (s ≠ y) && M s) := fun s => by
  by_cases e : s = y
  · subst e
    exact ⟨by rw [has_del_same]; simp, by rw [atKey_del_same]; simp⟩
  · rw [has_del_other (key_neT e), atKey_del_other (key_neT e)]
    simp [e]
    exact h s

/-- A map of paths: none, or one in memory; how many paths it has. -/
def MapV (w : World) (mv : Value) (M : ByteArray → Bool) (c : Nat) : Prop :=
  (mv = .map none ∧ (∀ s, M s = false) ∧ c = 0) ∨ ∃ m n D, mv = .map (some m) ∧ OwnMB w m n D ∧ MapB D M ∧ Maps.size D = c ∧ n ≤ 100000
def mapBlk : Value → Option Nat
  | .map (some m) => some m
  | _ => none
theorem MapV.kept {S : Nat → Prop} {a b : World} {mv : Value} {M : ByteArray → Bool} {c : Nat} (h : MapV a mv M c) (hk : Kept S a b) (hn : ∀ m, mapBlk mv = some m → ¬ S m) : MapV b mv M c := by
  rcases h with h | ⟨m, n, D, rfl, h1, h2, h3, h4⟩
  · exact Or.inl h
  · exact Or.inr ⟨m, n, D, rfl, ownMB_kept h1 hk (hn m rfl), h2, h3, h4⟩

/-- A tree in memory. -/
structure TreeAt (w : World) (g : Nat) (mv : Value) (M : ByteArray → Bool) (c : Nat) : Prop where
  cell : w.cell? ⟨g, 0, none⟩ = some mv
  map : MapV w mv M c
theorem TreeAt.lt {w : World} {g : Nat} {mv : Value} {M : ByteArray → Bool} {c : Nat} (h : TreeAt w g mv M c) : g < w.heap.size := World.block_lt_of_cell? w _ h.cell
theorem MapV.lt {w : World} {mv : Value} {M : ByteArray → Bool} {c : Nat} (h : MapV w mv M c) : ∀ m, mapBlk mv = some m → m < w.heap.size := by
  intro m hm
  rcases h with ⟨rfl, _⟩ | ⟨m', n, D, rfl, h1, _⟩
  · cases hm
  · have : m' = m := by simpa [mapBlk] using hm
    subst this; exact h1.lt
theorem TreeAt.kept {S : Nat → Prop} {a b : World} {g : Nat} {mv : Value} {M : ByteArray → Bool} {c : Nat} (h : TreeAt a g mv M c) (hk : Kept S a b) (h1 : ¬ S g) (hn : ∀ m, mapBlk mv = some m → ¬ S m) : TreeAt b g mv M c :=
  ⟨(hk.cell (p := ⟨g, 0, none⟩) h.lt h1).trans h.cell, h.map.kept hk hn⟩
theorem TreeAt.stay {a b : World} {g : Nat} {mv : Value} {M : ByteArray → Bool} {c : Nat} (h : TreeAt a g mv M c) (hk : Kept (fun _ => False) a b) : TreeAt b g mv M c := h.kept hk (fun h => h) (fun _ _ h => h)

end Go.Proofs.YtcooacjpblhblaaDoor
