/-
  Tokens: what lies between two tokens is blanks and comments, line by line (plain words); what a scan's tokens cover.
-/
import Derived.Test.YthkjcgcfbodgbaaDoorTkSp
import Derived.Test.YthkjcgcfbodgbaaDoorTkPq
namespace Go.Proofs.YthkjcgcfbodgbaaDoor
open Go.RowKit Go.Shelf
set_option linter.unusedSimpArgs false
set_option linter.unusedVariables false

/-- Blanks and comments alone (behind a '#' already, or not). -/
def okG : Bool → List Nat → Bool
  | _, [] => true
  | false, c :: t => if blankB c = true then okG false t else if c = 35 then okG true t else false
  | true, c :: t => if c = 10 then okG false t else okG true t
theorem okG_skip : ∀ (l : List Nat) (b : Bool), okG b (l.take (skipN b l)) = true
  | [], b => by cases b <;> rfl
  | c :: t, true => by
    rw [skipN]
    by_cases h : c = 10
    · rw [if_pos h, List.take_succ_cons, okG, if_pos h]; exact okG_skip t false
    · rw [if_neg h, List.take_succ_cons, okG, if_neg h]; exact okG_skip t true
  | c :: t, false => by
    rw [skipN]
    by_cases h : blankB c = true
    · rw [if_pos h, List.take_succ_cons, okG, if_pos h]; exact okG_skip t false
    · rw [if_neg h]
      by_cases h2 : c = 35
      · rw [if_pos h2, List.take_succ_cons, okG, if_neg h, if_pos h2]; exact okG_skip t true
      · rw [if_neg h2]; rfl
theorem okG_split : ∀ (a r : List Nat) (b : Bool), 10 ∉ a → okG b (a ++ 10 :: r) = true → okG b a = true ∧ okG false r = true
  | [], r, b, _, h => by
    cases b
    · rw [List.nil_append, okG, if_pos (by decide)] at h; exact ⟨rfl, h⟩
    · rw [List.nil_append, okG, if_pos rfl] at h; exact ⟨rfl, h⟩
  | c :: t, r, true, hn, h => by
    have hc : c ≠ 10 := fun e => hn (by simp [e])
    rw [List.cons_append, okG, if_neg hc] at h
    rw [okG, if_neg hc]
    exact okG_split t r true (fun e => hn (List.mem_cons_of_mem _ e)) h
  | c :: t, r, false, hn, h => by
    have ht : 10 ∉ t := fun e => hn (List.mem_cons_of_mem _ e)
    rw [List.cons_append, okG] at h
    rw [okG]
    by_cases hb : blankB c = true
    · rw [if_pos hb] at h ⊢; exact okG_split t r false ht h
    · rw [if_neg hb] at h ⊢
      by_cases h2 : c = 35
      · rw [if_pos h2] at h ⊢; exact okG_split t r true ht h
      · rw [if_neg h2] at h; cases h
/-- A line of blanks, and behind them a comment. -/
def LineOk (y : ByteArray) : Prop := ∀ b ∈ y.data.toList.takeWhile (fun b => b != 35), ([32, 9, 13] : List UInt8).contains b = true
theorem line_ok : ∀ l : List UInt8, (10 : UInt8) ∉ l → okG false (l.map UInt8.toNat) = true → ∀ b ∈ l.takeWhile (fun b => b != 35), ([32, 9, 13] : List UInt8).contains b = true
  | [], _, _ => fun b hb => by simp at hb
  | c :: t, hn, h => fun b hb => by
    have ht : (10 : UInt8) ∉ t := fun e => hn (List.mem_cons_of_mem _ e)
    by_cases h35 : c = 35
    · subst h35
      rw [List.takeWhile_cons_of_neg (p := fun x : UInt8 => x != 35) (by decide)] at hb
      cases hb
    · rw [List.takeWhile_cons_of_pos (p := fun x : UInt8 => x != 35) (bne_iff_ne.2 h35)] at hb
      have h35n : c.toNat ≠ 35 := fun e => h35 (UInt8.toNat_inj.1 e)
      rw [List.map_cons, okG] at h
      by_cases hbl : blankB c.toNat = true
      · rw [if_pos hbl] at h
        rcases List.mem_cons.1 hb with rfl | hb
        · have h10 : b ≠ 10 := fun e => hn (by simp [e])
          have h10n : b.toNat ≠ 10 := fun e => h10 (UInt8.toNat_inj.1 e)
          unfold blankB at hbl
          simp only [Bool.or_eq_true, decide_eq_true_eq] at hbl
          rcases hbl with ((e | e) | e) | e
          · rw [show b = 32 from UInt8.toNat_inj.1 e]; decide
          · rw [show b = 9 from UInt8.toNat_inj.1 e]; decide
          · exact absurd e h10n
          · rw [show b = 13 from UInt8.toNat_inj.1 e]; decide
        · exact line_ok t ht h b hb
      · rw [if_neg hbl, if_neg h35n] at h; cases h
theorem idx_dec : ∀ (l : List UInt8) (c : UInt8), c ∈ l → ∃ i : Nat, Lib.indexByte l c = i ∧ i < l.length ∧ l = l.take i ++ c :: l.drop (i + 1) ∧ c ∉ l.take i
  | [], c, h => by simp at h
  | b :: l, c, h => by
    rw [Lib.indexByte]
    by_cases hb : b = c
    · subst hb; exact ⟨0, by simp, by simp, by simp, by simp⟩
    · have hc : c ∈ l := by rcases List.mem_cons.1 h with e | e; exact absurd e.symm hb; exact e
      obtain ⟨i, h1, h2, h3, h4⟩ := idx_dec l c hc
      have hb' : (b == c) = false := beq_eq_false_iff_ne.2 hb
      refine ⟨i + 1, ?_, by simpa using h2, ?_, ?_⟩
      · have hm : (Lib.indexByte l c == -1) = false := beq_eq_false_iff_ne.2 (by omega)
        simp only [hb', hm, Bool.false_eq_true, if_false]
        omega
      · rw [List.take_succ_cons, List.drop_succ_cons, List.cons_append, ← h3]
      · rw [List.take_succ_cons]
        intro e
        rcases List.mem_cons.1 e with e | e
        · exact hb e.symm
        · exact h4 e
theorem lines_ok : ∀ (k : Nat) (s : ByteArray), okG false (strB s) = true → Lib.countB s ⟨#[10]⟩ = k → ∀ y ∈ Lib.splitB ⟨#[10]⟩ 0 k s, LineOk y
  | 0, s, h, hk => fun y hy => by
    rw [countB_oneT] at hk
    rw [Lib.splitB_zero] at hy
    obtain rfl := List.mem_singleton.1 hy
    exact line_ok _ (List.count_eq_zero.1 hk) h
  | k + 1, s, h, hk => fun y hy => by
    have hk' := hk
    rw [countB_oneT] at hk'
    have hin : (10 : UInt8) ∈ s.data.toList := List.count_pos_iff.1 (by unfold Lib.countByte at hk'; omega)
    obtain ⟨i, h1, h2, h3, h4⟩ := idx_dec _ _ hin
    have hs : s.size = s.data.toList.length := rfl
    rw [Lib.splitB_hit _ 0 k s i (by rw [indexB_oneT]; exact h1)] at hy
    have e1 : (s.extract 0 (i + 0)).data.toList = s.data.toList.take i := by rw [Nat.add_zero]; exact extract_listT s i
    have e2 : (s.extract (i + (⟨#[10]⟩ : ByteArray).size) s.size).data.toList = s.data.toList.drop (i + 1) := by
      show (s.extract (i + 1) s.size).data.toList = _
      rw [ext_list, List.take_of_length_le (by rw [List.length_drop, hs]; omega)]
    have hm : strB s = (s.data.toList.take i).map UInt8.toNat ++ 10 :: (s.data.toList.drop (i + 1)).map UInt8.toNat := by
      show s.data.toList.map UInt8.toNat = _
      conv => lhs; rw [h3]
      rw [List.map_append, List.map_cons]; rfl
    rw [hm] at h
    have h4' : 10 ∉ (s.data.toList.take i).map UInt8.toNat := fun e => by
      obtain ⟨x, hx, e⟩ := List.mem_map.1 e
      exact h4 ((UInt8.toNat_inj.1 (show x.toNat = (10 : UInt8).toNat from e)) ▸ hx)
    obtain ⟨g1, g2⟩ := okG_split _ _ _ h4' h
    rcases List.mem_cons.1 hy with rfl | hy
    · show ∀ b ∈ (s.extract 0 (i + 0)).data.toList.takeWhile _, _
      rw [e1]; exact line_ok _ h4 g1
    · refine lines_ok k _ (by rw [strB, e2]; exact g2) ?_ y hy
      rw [countB_oneT]
      unfold Lib.countByte at hk' ⊢
      rw [e2]
      rw [h3, List.count_append, List.count_cons_self, List.count_eq_zero.2 h4] at hk'
      omega
/-- What lies between two places is blanks and comments. -/
def Gap (s : ByteArray) (j i : Nat) : Prop := ∀ y ∈ linesB (s.extract j i), LineOk y
theorem gap_skip (s : ByteArray) (j : Nat) (hj : j ≤ s.size) : Gap s j (skipT (strB s) j) := fun y hy => by
  refine lines_ok _ _ ?_ rfl y hy
  have e : strB (s.extract j (skipT (strB s) j)) = ((strB s).drop j).take (skipN false ((strB s).drop j)) := by
    unfold strB
    rw [ext_list, List.map_take, List.map_drop]
    unfold skipT
    rw [Nat.add_sub_cancel_left]
  rw [e]
  exact okG_skip _ _
/-- Tokens that cover a text from a place on. -/
def Cov (s : ByteArray) : Nat → List Tok → Prop
  | j, [] => j = s.size
  | j, x :: r => ∃ i : Nat, x.i = i ∧ j ≤ i ∧ i + x.t.size ≤ s.size ∧ s.extract i (i + x.t.size) = x.t ∧ (x.k = 0 ↔ r = []) ∧ (x.t.size = 0 ↔ x.k = 0) ∧ Gap s j i ∧ Cov s (i + x.t.size) r
theorem cov_from (s : ByteArray) : ∀ f j, j ≤ s.size → s.size - skipT (strB s) j < f → (scanF (strB s) f (skipT (strB s) j)).2 = none → Cov s j ((scanF (strB s) f (skipT (strB s) j)).1.map (tokOf s) ++ [endTok s])
  | 0, j, hj, hf, h => by omega
  | f + 1, j, hj, hf, h => by
    have hg := gap_skip s j hj
    have hsk := skipT_le (strB s) j (by rw [strB_len]; exact hj)
    rw [strB_len] at hsk
    generalize skipT (strB s) j = i at hg hsk hf h ⊢
    rw [scanF] at h ⊢
    rw [strB_len] at h ⊢
    by_cases hi : i < s.size
    · rw [if_pos hi] at h ⊢
      by_cases h0 : (firstT ((strB s).drop i)).1 = 0
      · rw [if_pos h0] at h; cases h
      · rw [if_neg h0] at h ⊢
        have hl := firstT_len _ h0
        rw [List.length_drop, strB_len] at hl
        generalize hK : (firstT ((strB s).drop i)).1 = K at h0 h ⊢
        generalize hN : (firstT ((strB s).drop i)).2.1 = N at hl h ⊢
        generalize (firstT ((strB s).drop i)).2.2 = V at h ⊢
        have hsz : (s.extract i (i + N)).size = N := by rw [ByteArray.size_extract]; omega
        have hsk2 := skipT_le (strB s) (i + N) (by rw [strB_len]; omega)
        have ih := cov_from s f (i + N) (by omega) (by omega) h
        rw [List.map_cons, List.cons_append]
        refine ⟨i, rfl, hsk.1, ?_, ?_, ⟨fun e => absurd e h0, fun e => by simp at e⟩, ⟨fun e => ?_, fun e => absurd e h0⟩, hg, ?_⟩
        · show i + (s.extract i (i + N)).size ≤ _; rw [hsz]; omega
        · show s.extract i (i + (s.extract i (i + N)).size) = s.extract i (i + N); rw [hsz]
        · have : (s.extract i (i + N)).size = 0 := e
          omega
        · show Cov s (i + (s.extract i (i + N)).size) _; rw [hsz]; exact ih
    · rw [if_neg hi]
      have e : i = s.size := by omega
      refine ⟨i, by rw [e]; rfl, hsk.1, by show i + 0 ≤ _; omega, by rw [e]; exact str_extT (by show (s.extract s.size (s.size + 0)).data.toList = []; simp), ⟨fun _ => rfl, fun _ => rfl⟩, ⟨fun _ => rfl, fun _ => rfl⟩, hg, e⟩
theorem cov_scan {s : ByteArray} (h0 : (scanS s).2.2 = 0) : Cov s 0 (scanS s).1 := by
  by_cases h8 : 8000 < s.size
  · rw [scanS_long h8] at h0; cases h0
  · cases hq : (scanL s).2 with
    | some i => rw [scanS_bad h8 hq] at h0; cases h0
    | none =>
      rw [scanS_ok h8 hq]
      have hsk := skipT_le (strB s) 0 (Nat.zero_le _)
      exact cov_from s (s.size + 1) 0 (Nat.zero_le _) (by omega) hq
end Go.Proofs.YthkjcgcfbodgbaaDoor
