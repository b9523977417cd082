/-
  slices.Insert of one entry into a row of one's own, at any place; a list that ascends by role with one entry put in.
-/
import Derived.Test.YtccanbjnbmihgaaDoorMbK
import Derived.Test.YtccanbjnbmihgaaDoorMbP
namespace Go.Proofs.YtccanbjnbmihgaaDoor
open Go.RowKit
set_option linter.unusedVariables false

theorem insert_any (w : World) (v : Value) (l : List Ent) (x : Ent) (B p i : Nat) (hown : OwnE 87 B w v l) (hl : l.length ≤ 1000000) (hi : i ≤ l.length) (hB : B ≤ w.heap.size) (hp : ∀ k, v.ownBlock = some k → k ≠ p) (hx : One w p x) :
    Calls Tryd.prog 84 #[v, .int .i64 (i : Int), .slice (some ⟨p, 0, none⟩) 1 1] w fun e w' =>
      ∃ v', e = .returned v' ∧ OwnE 87 B w' v' (l.take i ++ [x] ++ l.drop i) ∧ Kept (blk v) w w' := by
  by_cases he : i = l.length
  · subst he
    rw [List.take_length, List.drop_length, List.append_nil]
    exact insert_end w v l x B p hown hl hB hx
  · have hown0 := hown
    unfold OwnE at hown
    rcases hown.2 with ⟨rfl, h2⟩ | ⟨g, c, cur, rfl, hb, hg, h1, h2, h3, h4⟩
    · omega
    · by_cases hroom : l.length + 1 ≤ c
      · refine (insert_mid w l x B p g l.length c i hown0 rfl hl (by omega) hroom h2 (hp g rfl) hx).mono ?_
        rintro e w' ⟨v', rfl, o, k⟩
        exact ⟨v', rfl, o, k.mono fun j _ hj => by show _ = _; rw [hj]; rfl⟩
      · obtain rfl : c = l.length := by omega
        refine (insert_grow w l x B p g l.length i hown0 rfl hl (by omega) hB (hp g rfl) hx).mono ?_
        rintro e w' ⟨v', rfl, o, k, _⟩
        exact ⟨v', rfl, o, k.mono fun j _ hj => hj.elim⟩

/-- A list with an entry put in at the place of its role. -/
def putR (l : List Ent) (x : Ent) : List Ent := l.filter (fun y => decide (y.r < x.r)) ++ [x] ++ l.filter (fun y => decide (x.r < y.r))

theorem asc_tail {x : Ent} {l : List Ent} (h : Asc (x :: l)) : Asc l := fun i j hij hj => by
  have := h (i + 1) (j + 1) (by omega) (by simpa using hj)
  simpa [List.getD] using this
theorem asc_head {x : Ent} {l : List Ent} (h : Asc (x :: l)) : ∀ y ∈ l, x.r < y.r := fun y hy => by
  obtain ⟨j, hj, rfl⟩ := List.getElem_of_mem hy
  have := h 0 (j + 1) (by omega) (by simpa using hj)
  simpa [List.getD, hj] using this

theorem place_split : ∀ (l : List Ent) (role : Int) (i : Nat), Asc l → PlaceAt l role i →
    l.take i = l.filter (fun y => decide (y.r < role)) ∧ (foundAt l role i = false → l.drop i = l.filter (fun y => decide (role < y.r))) ∧ (foundAt l role i = true → l.drop (i + 1) = l.filter (fun y => decide (role < y.r)))
  | [], role, i, _, h => by
    have : i = 0 := by have := h.1; simpa using this
    subst this
    simp
  | x :: l, role, 0, ha, h => by
    have h0 : role ≤ x.r := h.2.2 0 (Nat.le_refl _) (by simp)
    have ht := asc_head ha
    have e1 : (x :: l).filter (fun y => decide (y.r < role)) = [] := by
      rw [List.filter_eq_nil_iff]
      intro y hy
      rcases List.mem_cons.1 hy with rfl | hy
      · simp; omega
      · have := ht y hy; simp; omega
    have e2 : l.filter (fun y => decide (role < y.r)) = l := by
      rw [List.filter_eq_self]
      intro y hy
      have := ht y hy; simp; omega
    refine ⟨by rw [e1]; rfl, fun hf => ?_, fun hf => ?_⟩
    · have hne : x.r ≠ role := by
        unfold foundAt at hf
        simpa [List.getD] using hf
      rw [List.filter_cons, if_pos (by simp; omega), e2]; rfl
    · have heq : x.r = role := by
        unfold foundAt at hf
        simpa [List.getD] using hf
      rw [List.filter_cons, if_neg (by simp; omega), e2]; rfl
  | x :: l, role, i + 1, ha, h => by
    have h0 : x.r < role := by
      have := h.2.1 0 (by omega)
      simpa [List.getD] using this
    have hp : PlaceAt l role i := ⟨by have := h.1; simpa using this, fun k hk => by have := h.2.1 (k + 1) (by omega); simpa [List.getD] using this, fun k h1 h2 => by have := h.2.2 (k + 1) (by omega) (by simpa using h2); simpa [List.getD] using this⟩
    obtain ⟨i1, i2, i3⟩ := place_split l role i (asc_tail ha) hp
    have hf : foundAt (x :: l) role (i + 1) = foundAt l role i := by
      unfold foundAt
      exact decide_eq_decide.2 (by simp [List.getD])
    refine ⟨?_, fun hh => ?_, fun hh => ?_⟩
    · rw [List.filter_cons, if_pos (by simp; omega), ← i1]; rfl
    · rw [List.filter_cons, if_neg (by simp; omega), ← i2 (hf ▸ hh)]; rfl
    · rw [List.filter_cons, if_neg (by simp; omega), ← i3 (hf ▸ hh)]; rfl
/-- One entry of a row written anew. -/
theorem OwnE.put {T : TypeId} {B : Nat} {w : World} {g n c i : Nat} {l : List Ent} {x : Ent} (h : OwnE T B w (.slice (some ⟨g, 0, none⟩) n c) l) (hn : n = l.length) (hi : i < n) :
    OwnE T B (w.setCells g (i * 3) (entC x)) (.slice (some ⟨g, 0, none⟩) n c) (l.set i x) := by
  have hX : (flatE l).length = n * 3 := by rw [flatE_length, hn]
  obtain ⟨t1, t2⟩ := flatE_cut l i (by omega)
  obtain ⟨_, t3⟩ := flatE_cut l (i + 1) (by omega)
  have lx : (entC x).length = 3 := rfl
  have e2 : flatE (l.set i x) = (flatE l).take (i * 3) ++ entC x ++ (flatE l).drop ((i + 1) * 3) := by
    rw [List.set_eq_take_append_cons_drop, if_pos (by omega), flatE_append, show flatE (x :: l.drop (i + 1)) = entC x ++ flatE (l.drop (i + 1)) from rfl, t1, t3, List.append_assoc]
  unfold OwnE at h ⊢
  rw [List.length_set, ← hn, e2]
  rw [← hn] at h
  have hnc : n ≤ c ∧ c ≤ maxLen := by
    rcases h.2 with ⟨h', _⟩ | ⟨g', cap', cur, h', hb, hg, hnc, hcm, hcs, htake⟩
    · cases h'
    · cases h'; exact ⟨hnc, hcm⟩
  have ly : ((flatE l).take (i * 3)).length = i * 3 := by rw [List.length_take, hX, Nat.min_eq_left (by omega)]
  have ld : ((flatE l).drop ((i + 1) * 3)).length = n * 3 - (i + 1) * 3 := by rw [List.length_drop, hX]
  refine row_set h (i * 3) hnc.1 (by rw [lx]; omega) (by simp only [List.length_append, ly, lx, ld]; omega) (fun cur hc ht j hj => ?_)
  rw [lx]
  by_cases j1 : j < i * 3
  · rw [if_neg (by omega), List.append_assoc, List.getElem?_append_left (by omega), List.getElem?_take_of_lt j1]
    exact (take_getElem? ht hj).symm
  · by_cases j2 : j < i * 3 + 3
    · rw [if_pos (by omega), List.getElem?_append_left (by rw [List.length_append, ly, lx]; omega), List.getElem?_append_right (by omega), ly]
    · rw [if_neg (by omega), List.getElem?_append_right (by rw [List.length_append, ly, lx]; omega), List.length_append, ly, lx, List.getElem?_drop, show (i + 1) * 3 + (j - (i * 3 + 3)) = j by omega]
      exact (take_getElem? ht hj).symm
end Go.Proofs.YtccanbjnbmihgaaDoor
