/-
  Tokens: what is scanned from a text again (plain words).
-/
import Derived.Test.YthkjcgcfbodgbaaDoorTkK
namespace Go.Proofs.YthkjcgcfbodgbaaDoor
open Go.RowKit
set_option linter.unusedSimpArgs false
set_option linter.unusedVariables false

theorem tw_again {f : Nat → Bool} {r : List Nat} (hf : f 32 = false) (hr : r = [] ∨ ∃ q, r = 32 :: q) : ∀ l : List Nat, (l.takeWhile f ++ r).takeWhile f = l.takeWhile f
  | [] => by rcases hr with rfl | ⟨q, rfl⟩ <;> simp [List.takeWhile, hf]
  | c :: t => by
    cases hc : f c with
    | false => rcases hr with rfl | ⟨q, rfl⟩ <;> simp [List.takeWhile, hc, hf]
    | true =>
      have := tw_again hf hr t
      simp [List.takeWhile, hc, this]
theorem tw_take (f : Nat → Bool) : ∀ l : List Nat, l.take (l.takeWhile f).length = l.takeWhile f
  | [] => rfl
  | c :: t => by
    cases hc : f c with
    | false => simp [List.takeWhile, hc]
    | true => simp [List.takeWhile, hc, tw_take f t]
theorem tw_all {f : Nat → Bool} : ∀ (l : List Nat), ∀ c ∈ l.takeWhile f, f c = true := fun l c hc => by
  have := takeWhile_dig (l := l) (f := f) c (by rw [tw_take]; exact hc)
  exact this
/-- The symbol at the beginning is scanned again where it ends, or a blank stands behind it. -/
theorem sym_again {l r : List Nat} (hr : r = [] ∨ ∃ q, r = 32 :: q) (h : symN l ≠ 0) : symN (l.take (symN l) ++ r) = symN l ∧ (∀ c ∈ (l.take (symN l)).head?, letB c = false ∧ digB c = false ∧ blankB c = false ∧ c ≠ 35) := by
  unfold symN at h ⊢
  cases hf : symL.find? fun x => x.isPrefixOf l with
  | none => rw [hf] at h; exact absurd rfl h
  | some x =>
    have hp := List.find?_some hf
    have hm := List.mem_of_find?_eq_some hf
    rw [List.isPrefixOf_iff_prefix, List.prefix_iff_eq_take] at hp
    simp only [Option.getD_some]
    rw [← hp]
    simp only [symL, List.mem_cons, List.mem_nil_iff, or_false] at hm
    rcases hr with rfl | ⟨q, rfl⟩
    · rcases hm with rfl | rfl | rfl | rfl | rfl | rfl | rfl | rfl | rfl | rfl | rfl | rfl | rfl <;> exact ⟨by decide, by decide⟩
    · rcases hm with rfl | rfl | rfl | rfl | rfl | rfl | rfl | rfl | rfl | rfl | rfl | rfl | rfl <;> exact ⟨by simp [symL, List.find?, List.isPrefixOf], by decide⟩
theorem firstT_again {l r : List Nat} (hr : r = [] ∨ ∃ q, r = 32 :: q) (h : (firstT l).1 ≠ 0) :
    firstT (l.take (firstT l).2.1 ++ r) = firstT l ∧ (∀ c ∈ (l.take (firstT l).2.1).head?, blankB c = false ∧ c ≠ 35) := by
  cases l with
  | nil => exact absurd rfl h
  | cons c t =>
    cases hl : letB c with
    | true =>
      have e : firstT (c :: t) = (1, ((c :: t).takeWhile inWordB).length, 0) := by simp [firstT, hl]
      have hw : inWordB c = true := by simp [inWordB, hl]
      rw [e]
      simp only
      rw [tw_take]
      refine ⟨?_, ?_⟩
      · have e2 : (c :: t).takeWhile inWordB ++ r = c :: (t.takeWhile inWordB ++ r) := by simp [List.takeWhile, hw]
        have h3 := tw_again (f := inWordB) (by decide) hr (c :: t)
        rw [e2] at h3 ⊢
        simp only [firstT, hl, if_true]
        rw [h3]
      · have e2 : (c :: t).takeWhile inWordB = c :: t.takeWhile inWordB := by simp [List.takeWhile, hw]
        rw [e2]
        intro d hd
        have : c = d := by simpa using hd
        subst this
        unfold letB at hl
        simp only [Bool.and_eq_true, decide_eq_true_iff] at hl
        constructor
        · simp [blankB]; omega
        · omega
    | false =>
      cases hd : digB c with
      | true =>
        have e2 : (c :: t).takeWhile digB ++ r = c :: (t.takeWhile digB ++ r) := by simp [List.takeWhile, hd]
        have e3 : (c :: t).takeWhile digB = c :: t.takeWhile digB := by simp [List.takeWhile, hd]
        have h3 := tw_again (f := digB) (by decide) hr (c :: t)
        have ht := tw_take digB (c :: t)
        unfold firstT at h ⊢
        simp only [hl, hd, if_true, Bool.false_eq_true, if_false] at h ⊢
        split at h
        · exact absurd rfl h
        · rename_i hc
          rw [if_neg hc]
          simp only
          rw [ht]
          refine ⟨?_, ?_⟩
          · rw [e2] at h3 ⊢
            simp only [hl, hd, if_true, Bool.false_eq_true, if_false]
            rw [h3, if_neg]
            · have e4 : (c :: (t.takeWhile digB ++ r)).take ((c :: t).takeWhile digB).length = (c :: t).takeWhile digB := by
                rw [← e2, List.take_append_of_le_length (Nat.le_refl _), List.take_length]
              rw [e4]
            · rintro (h4 | h4 | ⟨h4, h5⟩)
              · exact hc (Or.inl h4)
              · exact hc (Or.inr (Or.inl h4))
              · rw [← e2] at h4 h5
                rcases hr with rfl | ⟨q, rfl⟩
                · rw [List.append_nil] at h4; exact Nat.lt_irrefl _ h4
                · have : ((c :: t).takeWhile digB ++ 32 :: q).getD ((c :: t).takeWhile digB).length 0 = 32 := by simp [List.getD]
                  rw [this] at h5
                  exact absurd h5 (by decide)
          · rw [e3]
            intro d hd2
            have : c = d := by simpa using hd2
            subst this
            unfold digB at hd
            simp only [Bool.and_eq_true, decide_eq_true_iff] at hd
            constructor
            · simp [blankB]; omega
            · omega
      | false =>
        have e : firstT (c :: t) = if symN (c :: t) = 0 then (0, 0, 0) else (3, symN (c :: t), 0) := by simp [firstT, hl, hd]
        rw [e] at h
        by_cases h0 : symN (c :: t) = 0
        · rw [if_pos h0] at h; exact absurd rfl h
        · rw [e, if_neg h0]
          simp only
          obtain ⟨q1, q2⟩ := sym_again hr h0
          cases hx : (c :: t).take (symN (c :: t)) with
          | nil =>
            rw [List.take_eq_nil_iff] at hx
            rcases hx with hx | hx
            · exact absurd hx h0
            · cases hx
          | cons d u =>
            rw [hx] at q1 q2
            obtain ⟨p1, p2, p3, p4⟩ := q2 d (by simp)
            refine ⟨?_, fun y hy => ?_⟩
            · have e5 : firstT ((d :: u) ++ r) = if symN ((d :: u) ++ r) = 0 then (0, 0, 0) else (3, symN ((d :: u) ++ r), 0) := by simp [firstT, p1, p2]
              rw [e5, q1, if_neg h0]
            · have : d = y := by simpa using hy
              subst this
              exact ⟨p3, p4⟩

/-- A piece that is scanned as one token of a kind and a value, with nothing or a blank behind it. -/
structure IsTok (p : List Nat) (k v : Nat) : Prop where
  kind : k ≠ 0
  scan : ∀ r, (r = [] ∨ ∃ q, r = 32 :: q) → firstT (p ++ r) = (k, p.length, v)
  head : ∀ c ∈ p.head?, blankB c = false ∧ c ≠ 35
  some : p ≠ []
theorem isTok_of {l : List Nat} (h : (firstT l).1 ≠ 0) : IsTok (l.take (firstT l).2.1) (firstT l).1 (firstT l).2.2 := by
  have hl := firstT_len l h
  have e : (l.take (firstT l).2.1).length = (firstT l).2.1 := by rw [List.length_take]; omega
  refine ⟨h, fun r hr => ?_, (firstT_again (r := []) (Or.inl rfl) h).2, fun e2 => ?_⟩
  · rw [(firstT_again hr h).1, e]
  · rw [e2] at e; simp at e; omega

/-- Pieces, joined by blanks. -/
def joinN : List (List Nat) → List Nat
  | [] => []
  | [x] => x
  | x :: y :: t => x ++ 32 :: joinN (y :: t)
theorem skipN_head {p r : List Nat} (hp : p ≠ []) (h : ∀ c ∈ p.head?, blankB c = false ∧ c ≠ 35) : skipN false (p ++ r) = 0 := by
  cases p with
  | nil => exact absurd rfl hp
  | cons c t =>
    obtain ⟨h1, h2⟩ := h c (by simp)
    rw [List.cons_append, skipN, if_neg (by rw [h1]; decide), if_neg h2]
theorem joinN_head {p : List Nat} {t : List (List Nat)} : ∃ r, joinN (p :: t) = p ++ r ∧ ((t = [] ∧ r = []) ∨ (t ≠ [] ∧ r = 32 :: joinN t)) := by
  cases t with
  | nil => exact ⟨[], by simp [joinN], Or.inl ⟨rfl, rfl⟩⟩
  | cons y u => exact ⟨_, rfl, Or.inr ⟨by simp, rfl⟩⟩
theorem scan_join : ∀ (ps : List (List Nat × Nat × Nat)), (∀ x ∈ ps, IsTok x.1 x.2.1 x.2.2) → ∀ (L : List Nat) (i f : Nat), L.drop i = joinN (ps.map (·.1)) → L.length - i < f →
    (scanF L f i).2 = none ∧ (scanF L f i).1.map (fun x => ((L.drop x.2.1).take x.2.2.1, x.1, x.2.2.2)) = ps
  | [], _, L, i, f, hd, hf => by
    obtain ⟨g, rfl⟩ : ∃ g, f = g + 1 := ⟨f - 1, by omega⟩
    have hi : ¬ i < L.length := by
      intro h
      have h2 : (L.drop i).length = 0 := by rw [hd]; rfl
      rw [List.length_drop] at h2; omega
    rw [scanF, if_neg hi]
    exact ⟨rfl, rfl⟩
  | (p, k, v) :: t, h, L, i, f, hd, hf => by
    obtain ⟨g, rfl⟩ : ∃ g, f = g + 1 := ⟨f - 1, by omega⟩
    have hp := h (p, k, v) (by simp)
    have ht : ∀ x ∈ t, IsTok x.1 x.2.1 x.2.2 := fun x hx => h x (List.mem_cons_of_mem _ hx)
    obtain ⟨r, hr, hr2⟩ := joinN_head (p := p) (t := t.map (·.1))
    have hd2 : L.drop i = p ++ r := by rw [hd]; exact hr
    have hpl : 0 < p.length := List.length_pos_iff.2 hp.some
    have hlen : L.length - i = p.length + r.length := by rw [← List.length_drop, hd2, List.length_append]
    have hi : i < L.length := by omega
    have hsc : firstT (L.drop i) = (k, p.length, v) := by
      rw [hd2]
      refine hp.scan r ?_
      rcases hr2 with ⟨_, h2⟩ | ⟨_, h2⟩
      · exact Or.inl h2
      · exact Or.inr ⟨_, h2⟩
    have hnx : L.drop (i + p.length) = r := by
      rw [← List.drop_drop, hd2]
      simp
    have hstep : L.drop (skipT L (i + p.length)) = joinN (t.map (·.1)) ∧ i + p.length ≤ skipT L (i + p.length) := by
      rcases hr2 with ⟨h1, h2⟩ | ⟨h1, h2⟩
      · have h3 : t = [] := by simpa using h1
        subst h3
        have : skipT L (i + p.length) = i + p.length := skipT_end L _ (by rw [h2] at hlen; simp at hlen; omega)
        rw [this, hnx, h2]
        exact ⟨rfl, Nat.le_refl _⟩
      · cases t with
        | nil => simp at h1
        | cons y u =>
          obtain ⟨r2, hr3, _⟩ := joinN_head (p := y.1) (t := u.map (·.1))
          have hy := ht y (by simp)
          have h4 : joinN ((y :: u).map (·.1)) = y.1 ++ r2 := hr3
          have hb : skipN false (32 :: joinN ((y :: u).map (·.1))) = 1 := by
            rw [skipN, if_pos (by decide), h4, skipN_head hy.some hy.head]
          have : skipT L (i + p.length) = i + p.length + 1 := by
            unfold skipT
            rw [hnx, h2, hb]
          rw [this, ← List.drop_drop, hnx, h2]
          exact ⟨rfl, by omega⟩
    obtain ⟨ih1, ih2⟩ := scan_join t ht L (skipT L (i + p.length)) g hstep.1 (by have := hstep.2; omega)
    rw [scanF, if_pos hi, hsc, if_neg hp.kind]
    refine ⟨ih1, ?_⟩
    rw [List.map_cons, ih2]
    congr 1
    rw [hd2]
    simp
end Go.Proofs.YthkjcgcfbodgbaaDoor
