/-
  Tokens: what is scanned where other blanks and comments stand between the tokens (plain words).
-/
import Derived.Test.YthkjcgcfbodgbaaDoorTkPq
namespace Go.Proofs.YthkjcgcfbodgbaaDoor
open Go.RowKit
set_option linter.unusedSimpArgs false
set_option linter.unusedVariables false

theorem blank_word : ∀ c, blankB c = true → inWordB c = false := fun c hc => by
  have hc4 : c = 32 ∨ c = 9 ∨ c = 10 ∨ c = 13 := by
    unfold blankB at hc
    simp only [Bool.or_eq_true, decide_eq_true_iff] at hc
    omega
  rcases hc4 with rfl | rfl | rfl | rfl <;> decide
theorem blank_dig : ∀ c, blankB c = true → digB c = false := fun c hc => by
  have := blank_word c hc
  unfold inWordB at this
  simp only [Bool.or_eq_false_iff] at this
  exact this.1.2
theorem twb_again {f : Nat → Bool} {r : List Nat} (hf : ∀ c, blankB c = true → f c = false) (hr : r = [] ∨ ∃ c q, r = c :: q ∧ blankB c = true) : ∀ l : List Nat, (l.takeWhile f ++ r).takeWhile f = l.takeWhile f
  | [] => by
    rcases hr with rfl | ⟨c, q, rfl, hc⟩
    · rfl
    · simp [List.takeWhile, hf c hc]
  | c :: t => by
    cases hc : f c with
    | false =>
      rcases hr with rfl | ⟨d, q, rfl, hd⟩
      · simp [List.takeWhile, hc]
      · simp [List.takeWhile, hc, hf d hd]
    | true =>
      have := twb_again hf hr t
      simp [List.takeWhile, hc, this]
/-- The symbol at the beginning is scanned again where it ends, or a blank stands behind it. -/
theorem symb_again {l r : List Nat} (hr : r = [] ∨ ∃ c q, r = c :: q ∧ blankB c = true) (h : symN l ≠ 0) : symN (l.take (symN l) ++ r) = symN l ∧ (∀ c ∈ (l.take (symN l)).head?, letB c = false ∧ digB c = false ∧ blankB c = false ∧ c ≠ 35) := by
  unfold symN at h ⊢
  cases hf : symL.find? fun x => x.isPrefixOf l with
  | none => rw [hf] at h; exact absurd rfl h
  | some x =>
    have hp := List.find?_some hf
    have hm := List.mem_of_find?_eq_some hf
    rw [List.isPrefixOf_iff_prefix, List.prefix_iff_eq_take] at hp
    simp only [Option.getD_some]
    rw [← hp]
    simp only [symL, List.mem_cons, List.mem_nil_iff, or_false] at hm
    rcases hr with rfl | ⟨c, q, rfl, hc⟩
    · rcases hm with rfl | rfl | rfl | rfl | rfl | rfl | rfl | rfl | rfl | rfl | rfl | rfl | rfl <;> exact ⟨by decide, by decide⟩
    · have hc4 : c = 32 ∨ c = 9 ∨ c = 10 ∨ c = 13 := by
        unfold blankB at hc
        simp only [Bool.or_eq_true, decide_eq_true_iff] at hc
        omega
      rcases hc4 with rfl | rfl | rfl | rfl <;> rcases hm with rfl | rfl | rfl | rfl | rfl | rfl | rfl | rfl | rfl | rfl | rfl | rfl | rfl <;> exact ⟨by simp [symL, List.find?, List.isPrefixOf], by decide⟩
theorem firstb_again {l r : List Nat} (hr : r = [] ∨ ∃ c q, r = c :: q ∧ blankB c = true) (h : (firstT l).1 ≠ 0) :
    firstT (l.take (firstT l).2.1 ++ r) = firstT l ∧ (∀ c ∈ (l.take (firstT l).2.1).head?, blankB c = false ∧ c ≠ 35) := by
  cases l with
  | nil => exact absurd rfl h
  | cons c t =>
    cases hl : letB c with
    | true =>
      have e : firstT (c :: t) = (1, ((c :: t).takeWhile inWordB).length, 0) := by simp [firstT, hl]
      have hw : inWordB c = true := by simp [inWordB, hl]
      rw [e]
      simp only
      rw [tw_take]
      refine ⟨?_, ?_⟩
      · have e2 : (c :: t).takeWhile inWordB ++ r = c :: (t.takeWhile inWordB ++ r) := by simp [List.takeWhile, hw]
        have h3 := twb_again (f := inWordB) blank_word hr (c :: t)
        rw [e2] at h3 ⊢
        simp only [firstT, hl, if_true]
        rw [h3]
      · have e2 : (c :: t).takeWhile inWordB = c :: t.takeWhile inWordB := by simp [List.takeWhile, hw]
        rw [e2]
        intro d hd
        have : c = d := by simpa using hd
        subst this
        unfold letB at hl
        simp only [Bool.and_eq_true, decide_eq_true_iff] at hl
        constructor
        · simp [blankB]; omega
        · omega
    | false =>
      cases hd : digB c with
      | true =>
        have e2 : (c :: t).takeWhile digB ++ r = c :: (t.takeWhile digB ++ r) := by simp [List.takeWhile, hd]
        have e3 : (c :: t).takeWhile digB = c :: t.takeWhile digB := by simp [List.takeWhile, hd]
        have h3 := twb_again (f := digB) blank_dig hr (c :: t)
        have ht := tw_take digB (c :: t)
        unfold firstT at h ⊢
        simp only [hl, hd, if_true, Bool.false_eq_true, if_false] at h ⊢
        split at h
        · exact absurd rfl h
        · rename_i hc
          rw [if_neg hc]
          simp only
          rw [ht]
          refine ⟨?_, ?_⟩
          · rw [e2] at h3 ⊢
            simp only [hl, hd, if_true, Bool.false_eq_true, if_false]
            rw [h3, if_neg]
            · have e4 : (c :: (t.takeWhile digB ++ r)).take ((c :: t).takeWhile digB).length = (c :: t).takeWhile digB := by
                rw [← e2, List.take_append_of_le_length (Nat.le_refl _), List.take_length]
              rw [e4]
            · rintro (h4 | h4 | ⟨h4, h5⟩)
              · exact hc (Or.inl h4)
              · exact hc (Or.inr (Or.inl h4))
              · rw [← e2] at h4 h5
                rcases hr with rfl | ⟨e, q, rfl, he⟩
                · rw [List.append_nil] at h4; exact Nat.lt_irrefl _ h4
                · have : ((c :: t).takeWhile digB ++ e :: q).getD ((c :: t).takeWhile digB).length 0 = e := by simp [List.getD]
                  rw [this, blank_word e he] at h5
                  cases h5
          · rw [e3]
            intro d hd2
            have : c = d := by simpa using hd2
            subst this
            unfold digB at hd
            simp only [Bool.and_eq_true, decide_eq_true_iff] at hd
            constructor
            · simp [blankB]; omega
            · omega
      | false =>
        have e : firstT (c :: t) = if symN (c :: t) = 0 then (0, 0, 0) else (3, symN (c :: t), 0) := by simp [firstT, hl, hd]
        rw [e] at h
        by_cases h0 : symN (c :: t) = 0
        · rw [if_pos h0] at h; exact absurd rfl h
        · rw [e, if_neg h0]
          simp only
          obtain ⟨q1, q2⟩ := symb_again hr h0
          cases hx : (c :: t).take (symN (c :: t)) with
          | nil =>
            rw [List.take_eq_nil_iff] at hx
            rcases hx with hx | hx
            · exact absurd hx h0
            · cases hx
          | cons d u =>
            rw [hx] at q1 q2
            obtain ⟨p1, p2, p3, p4⟩ := q2 d (by simp)
            refine ⟨?_, fun y hy => ?_⟩
            · have e5 : firstT ((d :: u) ++ r) = if symN ((d :: u) ++ r) = 0 then (0, 0, 0) else (3, symN ((d :: u) ++ r), 0) := by simp [firstT, p1, p2]
              rw [e5, q1, if_neg h0]
            · have : d = y := by simpa using hy
              subst this
              exact ⟨p3, p4⟩

/-- A piece that is scanned as one token of a kind and a value, with nothing or a blank behind it. -/
structure IsTokB (p : List Nat) (k v : Nat) : Prop where
  kind : k ≠ 0
  scan : ∀ r, (r = [] ∨ ∃ c q, r = c :: q ∧ blankB c = true) → firstT (p ++ r) = (k, p.length, v)
  head : ∀ c ∈ p.head?, blankB c = false ∧ c ≠ 35
  some : p ≠ []
theorem isTokB_of {l : List Nat} (h : (firstT l).1 ≠ 0) : IsTokB (l.take (firstT l).2.1) (firstT l).1 (firstT l).2.2 := by
  have hl := firstT_len l h
  have e : (l.take (firstT l).2.1).length = (firstT l).2.1 := by rw [List.length_take]; omega
  refine ⟨h, fun r hr => ?_, (firstb_again (r := []) (Or.inl rfl) h).2, fun e2 => ?_⟩
  · rw [(firstb_again hr h).1, e]
  · rw [e2] at e; simp at e; omega


/-- Blanks and comments that begin with a blank and end outside a comment. -/
structure IsSep (s : List Nat) : Prop where
  head : ∃ c q, s = c :: q ∧ blankB c = true
  skip : ∀ r, skipN false (s ++ r) = s.length + skipN false r
/-- Separators and pieces in turn, a comment's sign at the end. -/
def bodyP : (Nat → List Nat) → List (List Nat × Nat × Nat) → List Nat
  | sep, [] => sep 0 ++ [35]
  | sep, x :: t => sep 0 ++ (x.1 ++ bodyP (fun i => sep (i + 1)) t)
theorem bodyP_head {sep : Nat → List Nat} (h : ∀ i, IsSep (sep i)) (ps : List (List Nat × Nat × Nat)) : ∃ c q, bodyP sep ps = c :: q ∧ blankB c = true := by
  obtain ⟨c, q, hc, hb⟩ := (h 0).head
  cases ps with
  | nil => exact ⟨c, _, by rw [bodyP, hc]; rfl, hb⟩
  | cons x t => exact ⟨c, _, by rw [bodyP, hc]; rfl, hb⟩
theorem scan_seps : ∀ (ps : List (List Nat × Nat × Nat)) (sep : Nat → List Nat), (∀ i, IsSep (sep i)) → (∀ x ∈ ps, IsTokB x.1 x.2.1 x.2.2) → ∀ (L : List Nat) (j f : Nat), L.drop j = bodyP sep ps → L.length - j < f →
    (scanF L f (skipT L j)).2 = none ∧ (scanF L f (skipT L j)).1.map (fun x => ((L.drop x.2.1).take x.2.2.1, x.1, x.2.2.2)) = ps
  | [], sep, hs, _, L, j, f, hd, hf => by
    obtain ⟨g, rfl⟩ : ∃ g, f = g + 1 := ⟨f - 1, by omega⟩
    have hl : L.length - j = (sep 0).length + 1 := by rw [← List.length_drop, hd, bodyP, List.length_append]; rfl
    have hsk : skipT L j = L.length := by
      unfold skipT
      rw [hd, bodyP, (hs 0).skip [35]]
      have : skipN false [35] = 1 := by decide
      omega
    rw [hsk, scanF, if_neg (Nat.lt_irrefl _)]
    exact ⟨rfl, rfl⟩
  | (p, k, v) :: t, sep, hs, h, L, j, f, hd, hf => by
    obtain ⟨g, rfl⟩ : ∃ g, f = g + 1 := ⟨f - 1, by omega⟩
    have hp := h (p, k, v) (by simp)
    have ht : ∀ x ∈ t, IsTokB x.1 x.2.1 x.2.2 := fun x hx => h x (List.mem_cons_of_mem _ hx)
    obtain ⟨r, hr⟩ : ∃ r, r = bodyP (fun i => sep (i + 1)) t := ⟨_, rfl⟩
    have hd2 : L.drop j = sep 0 ++ (p ++ r) := by rw [hd, bodyP, hr]
    have hpl : 0 < p.length := List.length_pos_iff.2 hp.some
    have hlen : L.length - j = (sep 0).length + (p.length + r.length) := by rw [← List.length_drop, hd2, List.length_append, List.length_append]
    have hsk : skipT L j = j + (sep 0).length := by
      unfold skipT
      rw [hd2, (hs 0).skip, skipN_head hp.some hp.head]
      omega
    have hdi : L.drop (j + (sep 0).length) = p ++ r := by
      rw [← List.drop_drop, hd2]
      simp
    have hi : j + (sep 0).length < L.length := by omega
    have hsc : firstT (L.drop (j + (sep 0).length)) = (k, p.length, v) := by
      rw [hdi]
      obtain ⟨c, q, hc, hb⟩ := bodyP_head (fun i => hs (i + 1)) t
      exact hp.scan r (Or.inr ⟨c, q, by rw [hr]; exact hc, hb⟩)
    have hnx : L.drop (j + (sep 0).length + p.length) = bodyP (fun i => sep (i + 1)) t := by
      rw [← List.drop_drop, hdi, ← hr]
      simp
    obtain ⟨ih1, ih2⟩ := scan_seps t (fun i => sep (i + 1)) (fun i => hs (i + 1)) ht L (j + (sep 0).length + p.length) g hnx (by omega)
    rw [hsk, scanF, if_pos hi, hsc, if_neg hp.kind]
    refine ⟨ih1, ?_⟩
    rw [List.map_cons, ih2]
    congr 1
    rw [hdi]
    simp

/-- Separators and the texts of tokens in turn. -/
def bodyT : (Nat → List Nat) → List Tok → List Nat
  | _, [] => []
  | sep, x :: t => sep 0 ++ (strB x.t ++ bodyT (fun i => sep (i + 1)) t)
theorem bodyT_len : ∀ (l : List Tok) (sep : Nat → List Nat), (∀ i, (sep i).length ≤ 15) → (bodyT sep l).length ≤ 15 * l.length + (l.map (fun x => x.t.size)).sum
  | [], sep, _ => by simp [bodyT]
  | x :: t, sep, h => by
    have ih := bodyT_len t (fun i => sep (i + 1)) (fun i => h (i + 1))
    have h0 := h 0
    rw [bodyT, List.length_append, List.length_append, strB_len]
    simp only [List.length_cons, List.map_cons, List.sum_cons]
    omega
theorem bodyT_range : ∀ (l : List Tok) (sep : Nat → List Nat), ((List.range l.length).map (fun i => sep i ++ strB (l.getD i tok0).t)).flatten = bodyT sep l
  | [], sep => rfl
  | x :: t, sep => by
    have ih := bodyT_range t (fun i => sep (i + 1))
    rw [List.length_cons, List.range_succ_eq_map, List.map_cons, List.flatten_cons, List.map_map, bodyT, ← ih, List.append_assoc]
    rfl
theorem bodyT_P (s : ByteArray) (ys : List (Nat × Nat × Nat × Nat)) : ∀ (sep : Nat → List Nat), bodyT sep (ys.map (tokOf s) ++ [endTok s]) ++ [35] = bodyP sep (ys.map (fun x => (((strB s).drop x.2.1).take x.2.2.1, x.1, x.2.2.2))) := by
  induction ys with
  | nil =>
    intro sep
    show (sep 0 ++ ([] ++ [])) ++ [35] = sep 0 ++ [35]
    simp
  | cons y t ih =>
    intro sep
    have e : strB (tokOf s y).t = ((strB s).drop y.2.1).take y.2.2.1 := ext_take s y.2.1 y.2.2.1
    rw [List.map_cons, List.cons_append, bodyT, List.map_cons, bodyP, ← ih, e]
    simp

/-- Other blanks and comments between the tokens change nothing but places. -/
theorem scan_other {t O : ByteArray} {sep : Nat → List Nat} (h0 : (scanS t).2.2 = 0) (h4 : t.size ≤ 400) (hs : ∀ i, IsSep (sep i)) (hl : ∀ i, (sep i).length ≤ 15) (hO : strB O = bodyT sep (scanS t).1 ++ [35]) :
    O.size ≤ 7000 ∧ (scanS t).1.length ≤ 401 ∧ (scanS O).2 = (0, 0) ∧ (scanS O).1.map zT = (scanS t).1.map zT := by
  have h8 : ¬ 8000 < t.size := by omega
  have hn : (scanL t).2 = none := by
    cases hq : (scanL t).2 with
    | none => rfl
    | some i => rw [scanS_bad h8 hq] at h0; cases h0
  rw [scanS_ok h8 hn] at hO ⊢
  simp only at hO ⊢
  have hmem := scan_mem (strB t) (t.size + 1) (skipT (strB t) 0)
  have hsk := skipT_le (strB t) 0 (Nat.zero_le _)
  have hsum := scan_sum (strB t) (t.size + 1) (skipT (strB t) 0) hsk.2
  change ∀ y ∈ (scanL t).1, _ at hmem
  change ((scanL t).1.map (·.2.2.1)).sum ≤ _ ∧ (scanL t).1.length ≤ _ at hsum
  rw [strB_len] at hsum
  generalize (scanL t).1 = ys at hmem hsum hO ⊢
  have hlen := bodyT_len (ys.map (tokOf t) ++ [endTok t]) sep hl
  have hss : ((ys.map (tokOf t) ++ [endTok t]).map (fun x => x.t.size)).sum ≤ (ys.map (·.2.2.1)).sum := by
    rw [List.map_append, List.sum_append, List.map_map]
    have e : ([endTok t].map (fun x => x.t.size)).sum = 0 := rfl
    rw [e, Nat.add_zero]
    clear hmem hsum hO hlen
    induction ys with
    | nil => simp
    | cons y u ih =>
      have e2 : (tokOf t y).t.size ≤ y.2.2.1 := by
        show (t.extract y.2.1 (y.2.1 + y.2.2.1)).size ≤ _
        rw [ByteArray.size_extract]; omega
      simp only [List.map_cons, List.sum_cons, Function.comp_apply] at ih ⊢
      omega
  have hsz : O.size ≤ 7000 := by
    have e := congrArg List.length hO
    rw [strB_len, List.length_append] at e
    simp only [List.length_append, List.length_map, List.length_cons, List.length_nil] at hlen e
    omega
  rw [bodyT_P] at hO
  have htok : ∀ x ∈ ys.map (fun x => (((strB t).drop x.2.1).take x.2.2.1, x.1, x.2.2.2)), IsTokB x.1 x.2.1 x.2.2 := fun x hx => by
    obtain ⟨y, hy, rfl⟩ := List.mem_map.1 hx
    obtain ⟨a1, a2, a3⟩ := hmem y hy
    have := isTokB_of (l := (strB t).drop y.2.1) (by rw [a3]; exact a1)
    rw [a3] at this
    exact this
  have hsc := scan_seps _ sep hs htok (strB O) 0 (O.size + 1) (by rw [List.drop_zero, hO]) (by rw [strB_len]; omega)
  change (scanL O).2 = none ∧ (scanL O).1.map _ = _ at hsc
  rw [scanS_ok (by omega) hsc.1]
  refine ⟨hsz, by simp only [List.length_append, List.length_map, List.length_cons, List.length_nil]; omega, rfl, ?_⟩
  simp only [List.map_append, List.map_map, List.map_cons, List.map_nil]
  congr 1
  have e1 : ∀ (s : ByteArray) (zs : List (Nat × Nat × Nat × Nat)), zs.map (zT ∘ tokOf s) = (zs.map (fun x => (((strB s).drop x.2.1).take x.2.2.1, x.1, x.2.2.2))).map ofP := fun s zs => by
    rw [List.map_map]
    exact List.map_congr_left fun x _ => zT_tokOf s x
  rw [e1, e1, hsc.2]

/-- The five fillings. -/
def sepB : List ByteArray := [⟨#[32]⟩, ⟨#[9, 10]⟩, ⟨#[32, 35, 32, 110, 111, 59, 32, 116, 111, 107, 101, 110, 45, 62, 10]⟩, ⟨#[13, 32, 10, 35, 10]⟩, ⟨#[10]⟩]
theorem sepB_sep : ∀ r, r < 5 → IsSep (strB (sepB.getD r ⟨#[]⟩)) ∧ (strB (sepB.getD r ⟨#[]⟩)).length ≤ 15 := by
  intro r hr
  have h5 : r = 0 ∨ r = 1 ∨ r = 2 ∨ r = 3 ∨ r = 4 := by omega
  rcases h5 with rfl | rfl | rfl | rfl | rfl
  · have e : strB (sepB.getD 0 ⟨#[]⟩) = [32] := by decide +kernel
    rw [e]; exact ⟨⟨⟨32, [], rfl, by decide⟩, fun r => by simp [skipN, blankB]; omega⟩, by decide⟩
  · have e : strB (sepB.getD 1 ⟨#[]⟩) = [9, 10] := by decide +kernel
    rw [e]; exact ⟨⟨⟨9, [10], rfl, by decide⟩, fun r => by simp [skipN, blankB]; omega⟩, by decide⟩
  · have e : strB (sepB.getD 2 ⟨#[]⟩) = [32, 35, 32, 110, 111, 59, 32, 116, 111, 107, 101, 110, 45, 62, 10] := by decide +kernel
    rw [e]; exact ⟨⟨⟨32, _, rfl, by decide⟩, fun r => by simp [skipN, blankB]; omega⟩, by decide⟩
  · have e : strB (sepB.getD 3 ⟨#[]⟩) = [13, 32, 10, 35, 10] := by decide +kernel
    rw [e]; exact ⟨⟨⟨13, _, rfl, by decide⟩, fun r => by simp [skipN, blankB]; omega⟩, by decide⟩
  · have e : strB (sepB.getD 4 ⟨#[]⟩) = [10] := by decide +kernel
    rw [e]; exact ⟨⟨⟨10, [], rfl, by decide⟩, fun r => by simp [skipN, blankB]; omega⟩, by decide⟩
end Go.Proofs.YthkjcgcfbodgbaaDoor
