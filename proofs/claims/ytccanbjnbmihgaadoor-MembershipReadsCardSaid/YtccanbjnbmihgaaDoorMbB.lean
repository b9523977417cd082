/-
  A book in memory: a block of 257 rows of entries; put.
-/
import Derived.Test.YtccanbjnbmihgaaDoorMbL
import Derived.Deep.QuietTactic
import Derived.Deep.RegionHeld3
import Derived.StillTailTactics
namespace Go.Proofs.YtccanbjnbmihgaaDoor
open Go.RowKit Go.Shelf
set_option linter.unusedVariables false
set_option linter.unusedSimpArgs false

theorem OwnE.slot {T : TypeId} {B n c i : Nat} {a : Option Addr} {w : World} {l : List Ent} (h : OwnE T B w (.slice a n c) l) (hn : l.length = n) (hi : i < n) :
    ∃ g y0 y1 y2, a = some ⟨g, 0, none⟩ ∧ B ≤ g ∧ g < w.heap.size ∧ w.cell? ⟨g, i * 3, none⟩ = some y0 ∧ w.cell? ⟨g, i * 3 + 1, none⟩ = some y1 ∧ w.cell? ⟨g, i * 3 + 2, none⟩ = some y2 ∧ w.frozen? ⟨g, i * 3, none⟩ = false ∧ w.frozen? ⟨g, i * 3 + 1, none⟩ = false ∧ w.frozen? ⟨g, i * 3 + 2, none⟩ = false := by
  have h0 := h
  obtain ⟨g, off, rfl, hg, hc⟩ := h.ents.at (k := i) (by omega)
  unfold OwnE at h
  rw [hn] at h
  rcases h.2 with ⟨h', _⟩ | ⟨g', c', cur, h', hb, hg', h1, h2, h3, h4⟩
  · cases h'
  · cases h'
    obtain ⟨a0, a1, a2⟩ := hc
    rw [Nat.zero_add] at a0 a1 a2
    exact ⟨g, _, _, _, rfl, hb, hg, a0, a1, a2, World.ownsRow.frozenAt h _, World.ownsRow.frozenAt h _, World.ownsRow.frozenAt h _⟩
theorem found_lt {l : List Ent} {r : Int} {i : Nat} (h : true = foundAt l r i) : i < l.length := by
  unfold foundAt at h
  exact (of_decide_eq_true h.symm).1

/-- A block that holds a book: user u's row reads as H u. -/
structure BookAt (w : World) (bb M : Nat) (hv : Nat → Value) (H : Nat → List Ent) : Prop where
  cell : ∀ u, u < 257 → w.cell? ⟨bb, u, none⟩ = some (hv u)
  free : ∀ u, w.frozen? ⟨bb, u, none⟩ = false
  row : ∀ u, u < 257 → Ents w (hv u) (H u)
  apart : ∀ u k, u < 257 → (hv u).ownBlock = some k → k ≠ bb
  asc : ∀ u, u < 257 → Asc (H u)
  len : ∀ u, u < 257 → (H u).length ≤ M
  user : ∀ u, u < 257 → ∀ x ∈ H u, x.u = (u : Int)
def upd {α : Type} (f : Nat → α) (u : Nat) (v : α) : Nat → α := fun k => if k = u then v else f k

theorem box3c (w : World) (u r t : Int) (T : TypeId) :
    (w.alloc (.cells #[.int .i64 u, .int .i64 r, .int .i64 t] T)).cell? ⟨w.heap.size, 0, none⟩ = some (.int .i64 u) ∧ (w.alloc (.cells #[.int .i64 u, .int .i64 r, .int .i64 t] T)).cell? ⟨w.heap.size, 1, none⟩ = some (.int .i64 r) ∧ (w.alloc (.cells #[.int .i64 u, .int .i64 r, .int .i64 t] T)).cell? ⟨w.heap.size, 2, none⟩ = some (.int .i64 t) :=
  ⟨by go_simp, by go_simp, by go_simp⟩

theorem cells3 (w : World) (g o : Nat) (x : Ent) : ((w.setCell ⟨g, o, none⟩ (.int .i64 x.u)).setCell ⟨g, o + 1, none⟩ (.int .i64 x.r)).setCell ⟨g, o + 2, none⟩ (.int .i64 x.t) = w.setCells g o (entC x) := rfl

theorem book_fin {w W4 : World} {bb M u : Nat} {hv : Nat → Value} {H : Nat → List Ent} {v : Value} {l' : List Ent} (h : BookAt w bb M hv H) (K : Kept (fun _ => False) w W4) (hrow : Ents W4 v l') (hvb : ∀ k, v.ownBlock = some k → w.heap.size ≤ k)
    (ha : Asc l') (hlen : l'.length ≤ M + 1) (hus : ∀ x ∈ l', x.u = (u : Int)) (hu : u < 257) :
    BookAt (W4.drew.setCell ⟨bb, u, none⟩ v) bb (M + 1) (upd hv u v) (upd H u l') ∧ Kept (fun k => k = bb) w (W4.drew.setCell ⟨bb, u, none⟩ v) := by
  have hbb : bb < w.heap.size := World.block_lt_of_cell? w _ (h.cell u hu)
  have c4 : ∀ k, k < 257 → W4.drew.cell? ⟨bb, k, none⟩ = some (hv k) := fun k hk => (K.cell (World.block_lt_of_cell? w _ (h.cell k hk)) (fun h => h)).trans (h.cell k hk)
  have KS : Kept (fun k => k = bb) w (W4.drew.setCell ⟨bb, u, none⟩ v) := K.drew.trans (Kept.setCell (fun k => k = bb) _ ⟨bb, u, none⟩ v rfl) (fun _ _ h => h.elim) (fun _ _ h => h)
  have KT : Kept (fun k => k = bb) W4 (W4.drew.setCell ⟨bb, u, none⟩ v) := (Kept.refl (fun k => k = bb) W4).drew.trans (Kept.setCell (fun k => k = bb) _ ⟨bb, u, none⟩ v rfl) (fun _ _ h => h) (fun _ _ h => h)
  refine ⟨⟨fun k hk => ?_, fun k => ?_, fun k hk => ?_, fun k b hk hb => ?_, fun k hk => ?_, fun k hk => ?_, fun k hk => ?_⟩, KS⟩
  · unfold upd
    by_cases e : k = u
    · subst e
      rw [if_pos rfl]
      first | exact World.cell?_setCell_same _ (c4 k hk) | exact World.cell?_setCell_same _ _ (c4 k hk) | exact World.cell?_setCell_same _ _ _ (c4 k hk)
    · have hne : (⟨bb, u, none⟩ : Addr) ≠ ⟨bb, k, none⟩ := fun h => e (by injection h with _ h; exact h.symm)
      rw [if_neg e]
      exact (World.cell?_setCell_other _ _ _ _ hne).trans (c4 k hk)
  · rw [World.frozen?_setCell]
    exact (K.frozen (p := ⟨bb, k, none⟩) hbb (fun h => h)).trans (h.free k)
  · unfold upd
    by_cases e : k = u
    · rw [if_pos e, if_pos e]
      exact hrow.kept KT (fun b hb e2 => by have := hvb b hb; omega)
    · rw [if_neg e, if_neg e]
      exact (h.row k hk).kept KS (fun b hb e2 => h.apart k b hk hb e2)
  · unfold upd at hb
    by_cases e : k = u
    · rw [if_pos e] at hb
      have := hvb b hb; omega
    · rw [if_neg e] at hb
      exact h.apart k b hk hb
  · unfold upd
    by_cases e : k = u
    · rw [if_pos e]; exact ha
    · rw [if_neg e]; exact h.asc k hk
  · unfold upd
    by_cases e : k = u
    · rw [if_pos e]; exact hlen
    · rw [if_neg e]; exact Nat.le_succ_of_le (h.len k hk)
  · unfold upd
    by_cases e : k = u
    · rw [if_pos e, e]; exact hus
    · rw [if_neg e]; exact h.user k hk

theorem asc_pair {l : List Ent} : Asc l ↔ l.Pairwise (fun a b => a.r < b.r) := by
  rw [List.pairwise_iff_getElem]
  constructor
  · intro h i j hi hj hij
    have := h i j hij hj
    simpa [List.getD, hi, hj] using this
  · intro h i j hij hj
    have := h i j (by omega) hj hij
    simpa [List.getD, hj, show i < l.length by omega] using this
theorem asc_putR {l : List Ent} {x : Ent} (h : Asc l) : Asc (putR l x) := by
  rw [asc_pair] at h ⊢
  unfold putR
  rw [List.append_assoc, List.pairwise_append]
  refine ⟨h.filter _, ?_, fun a ha b hb => ?_⟩
  · rw [List.singleton_append, List.pairwise_cons]
    exact ⟨fun b hb => by simpa using (List.mem_filter.1 hb).2, h.filter _⟩
  · have h1 : a.r < x.r := by simpa using (List.mem_filter.1 ha).2
    rcases List.mem_append.1 hb with hb | hb
    · rw [List.mem_singleton.1 hb]; exact h1
    · have h2 : x.r < b.r := by simpa using (List.mem_filter.1 hb).2
      omega
theorem user_putR {l : List Ent} {x : Ent} {u : Int} (h : ∀ y ∈ l, y.u = u) (hx : x.u = u) : ∀ y ∈ putR l x, y.u = u := fun y hy => by
  unfold putR at hy
  simp only [List.mem_append, List.mem_singleton, List.mem_filter] at hy
  rcases hy with (hy | hy) | hy
  · exact h y hy.1
  · rw [hy]; exact hx
  · exact h y hy.1
/-- The row's list behind the store. -/
theorem set_found {l : List Ent} {x : Ent} {i : Nat} (ha : Asc l) (hp : PlaceAt l x.r i) (hf : true = foundAt l x.r i) : l.set i x = putR l x ∧ (l.set i x).length ≤ l.length + 1 := by
  obtain ⟨e1, _, e3⟩ := place_split l x.r i ha hp
  refine ⟨?_, by rw [List.length_set]; omega⟩
  unfold putR
  rw [List.set_eq_take_append_cons_drop, if_pos (found_lt hf), e1, e3 hf.symm, List.append_assoc, List.singleton_append]
theorem set_new {l : List Ent} {x : Ent} {i : Nat} (ha : Asc l) (hp : PlaceAt l x.r i) (hf : false = foundAt l x.r i) : (l.take i ++ [x] ++ l.drop i).set i x = putR l x ∧ ((l.take i ++ [x] ++ l.drop i).set i x).length ≤ l.length + 1 := by
  obtain ⟨e1, e2, _⟩ := place_split l x.r i ha hp
  have hl : (l.take i).length = i := by rw [List.length_take, Nat.min_eq_left hp.1]
  refine ⟨?_, by rw [List.length_set]; simp only [List.length_append, List.length_take, List.length_drop, List.length_singleton]; omega⟩
  have e : (l.take i ++ [x] ++ l.drop i).set i x = l.take i ++ [x] ++ l.drop i := by
    rw [List.append_assoc, List.set_append_right _ _ (by omega), hl, Nat.sub_self]
    rfl
  rw [e]
  unfold putR
  rw [e1, e2 hf.symm]

end Go.Proofs.YtccanbjnbmihgaaDoor
