/-
  Tokens: the scan of numbers with commas between them; a number in decimal is a token (plain words, for TokenSets).
-/
import Derived.Test.YtoekdcobnmkpaaaGreatDoorTkP
import Derived.Lib.ItoaNum
namespace Go.Proofs.YtoekdcobnmkpaaaGreatDoor
open Go.RowKit
set_option linter.unusedSimpArgs false
set_option linter.unusedVariables false

/-- The digits of a number as a token says it. -/
structure IsNum (p : List Nat) (n : Nat) : Prop where
  ne : p ≠ []
  digs : ∀ c ∈ p, digB c = true
  lead : p.head? = some 48 → p.length = 1
  len : p.length ≤ 6
  val : valN p = n
theorem dig_notLet {c : Nat} (h : digB c = true) : letB c = false ∧ blankB c = false ∧ c ≠ 35 := by
  unfold digB at h
  simp only [Bool.and_eq_true, decide_eq_true_eq] at h
  refine ⟨?_, ?_, by omega⟩
  · unfold letB; simp only [Bool.and_eq_false_iff, decide_eq_false_iff_not]; omega
  · unfold blankB; simp only [Bool.or_eq_false_iff, decide_eq_false_iff_not]; omega
theorem num_first {p r : List Nat} {n : Nat} (h : IsNum p n) (hr : r = [] ∨ ∃ c q, r = c :: q ∧ inWordB c = false) : firstT (p ++ r) = (2, p.length, n) := by
  have htw : (p ++ r).takeWhile digB = p := by
    rw [List.takeWhile_append_of_pos h.digs]
    rcases hr with rfl | ⟨c, q, rfl, hc⟩
    · simp
    · have hd : digB c = false := by
        unfold inWordB at hc
        simp only [Bool.or_eq_false_iff] at hc
        exact hc.1.2
      rw [List.takeWhile_cons_of_neg (by rw [hd]; decide), List.append_nil]
  have hnw : ¬ (p.length < (p ++ r).length ∧ inWordB ((p ++ r).getD p.length 0) = true) := by
    rcases hr with rfl | ⟨c, q, rfl, hc⟩
    · simp
    · intro hh
      have e : (p ++ c :: q).getD p.length 0 = c := by simp [List.getD]
      rw [e, hc] at hh
      exact absurd hh.2 (by decide)
  have htk : (p ++ r).take p.length = p := by simp
  have hv := h.val
  have hl := h.len
  have hld := h.lead
  have hsm := h.ne
  have hdg := h.digs
  clear h
  cases p with
  | nil => exact absurd rfl hsm
  | cons c t =>
    have hc := hdg c (by simp)
    have hn := (dig_notLet hc).1
    rw [List.cons_append] at htw hnw htk ⊢
    unfold firstT
    simp only [hn, hc, Bool.false_eq_true, if_false, if_true, htw]
    rw [if_neg, htk, hv]
    rintro (h6 | ⟨h48, h1⟩ | h3)
    · omega
    · have := hld (by rw [h48]; rfl)
      omega
    · exact hnw h3
theorem num_tok {p : List Nat} {n : Nat} (h : IsNum p n) : IsTok p 2 n :=
  ⟨by decide, fun r hr => num_first h (hr.imp id (fun ⟨q, hq⟩ => ⟨32, q, hq, by decide⟩)), fun c hc => by
    have hm : c ∈ p := List.mem_of_mem_head? hc
    exact (dig_notLet (h.digs c hm)).2, h.ne⟩
theorem comma_first (r : List Nat) : firstT (44 :: r) = (3, 1, 0) := by
  have e : symN (44 :: r) = 1 := by simp [symN, symL, List.isPrefixOf]
  unfold firstT
  simp only [e]
  rfl
/-- Pieces, joined by commas. -/
def joinC : List (List Nat) → List Nat
  | [] => []
  | [x] => x
  | x :: y :: t => x ++ 44 :: joinC (y :: t)
/-- Numbers and the commas between them, as tokens: text, kind, value. -/
def withC : List (List Nat × Nat) → List (List Nat × Nat × Nat)
  | [] => []
  | [x] => [(x.1, 2, x.2)]
  | x :: y :: t => (x.1, 2, x.2) :: ([44], 3, 0) :: withC (y :: t)
theorem skip_num {p r : List Nat} {n : Nat} (h : IsNum p n) : skipN false (p ++ r) = 0 := skipN_head h.ne (num_tok h).head
theorem joinC_head {p : List Nat} {t : List (List Nat)} : ∃ r, joinC (p :: t) = p ++ r := by
  cases t with
  | nil => exact ⟨[], by simp [joinC]⟩
  | cons y u => exact ⟨_, rfl⟩
theorem scan_commas : ∀ (ps : List (List Nat × Nat)), (∀ x ∈ ps, IsNum x.1 x.2) → ∀ (L : List Nat) (i f : Nat), L.drop i = joinC (ps.map (·.1)) → L.length - i < f →
    (scanF L f i).2 = none ∧ (scanF L f i).1.map (fun x => ((L.drop x.2.1).take x.2.2.1, x.1, x.2.2.2)) = withC ps
  | [], _, L, i, f, hd, hf => by
    obtain ⟨g, rfl⟩ : ∃ g, f = g + 1 := ⟨f - 1, by omega⟩
    have hi : ¬ i < L.length := by
      intro h
      have h2 : (L.drop i).length = 0 := by rw [hd]; rfl
      rw [List.length_drop] at h2; omega
    rw [scanF, if_neg hi]
    exact ⟨rfl, rfl⟩
  | [(p, n)], h, L, i, f, hd, hf => by
    have hp := h (p, n) (by simp)
    have hd2 : L.drop i = p := hd
    have := scan_join [(p, 2, n)] (fun x hx => by obtain rfl := List.mem_singleton.1 hx; exact num_tok hp) L i f (by rw [hd2]; rfl) hf
    exact this
  | (p, n) :: y :: t, h, L, i, f, hd, hf => by
    obtain ⟨g, rfl⟩ : ∃ g, f = g + 1 := ⟨f - 1, by omega⟩
    have hp := h (p, n) (by simp)
    have hy := h y (by simp)
    have ht : ∀ x ∈ y :: t, IsNum x.1 x.2 := fun x hx => h x (List.mem_cons_of_mem _ hx)
    have hd2 : L.drop i = p ++ 44 :: joinC ((y :: t).map (·.1)) := hd
    have hpl : 0 < p.length := List.length_pos_iff.2 hp.ne
    have hlen : L.length - i = p.length + (joinC ((y :: t).map (·.1))).length + 1 := by
      rw [← List.length_drop, hd2, List.length_append, List.length_cons]; omega
    have hi : i < L.length := by omega
    have hnx : L.drop (i + p.length) = 44 :: joinC ((y :: t).map (·.1)) := by rw [← List.drop_drop, hd2]; simp
    have hnx2 : L.drop (i + p.length + 1) = joinC ((y :: t).map (·.1)) := by rw [← List.drop_drop, hnx]; simp
    obtain ⟨r2, hr2⟩ := joinC_head (p := y.1) (t := t.map (·.1))
    have hs1 : skipT L (i + p.length) = i + p.length := by
      unfold skipT; rw [hnx, skipN, if_neg (by decide), if_neg (by decide)]; rfl
    have hs2 : skipT L (i + p.length + 1) = i + p.length + 1 := by
      unfold skipT; rw [hnx2, List.map_cons, hr2, skip_num hy]
    obtain ⟨g2, rfl⟩ : ∃ g2, g = g2 + 1 := ⟨g - 1, by omega⟩
    obtain ⟨ih1, ih2⟩ := scan_commas (y :: t) ht L (i + p.length + 1) g2 hnx2 (by omega)
    have f1 : firstT (L.drop i) = (2, p.length, n) := by rw [hd2]; exact num_first hp (Or.inr ⟨44, _, rfl, by decide⟩)
    have f2 : firstT (L.drop (i + p.length)) = (3, 1, 0) := by rw [hnx]; exact comma_first _
    have hi2 : i + p.length < L.length := by omega
    rw [scanF, if_pos hi, f1, if_neg (show ¬ (2 : Nat) = 0 by decide)]
    simp only
    rw [hs1, scanF, if_pos hi2, f2, if_neg (show ¬ (3 : Nat) = 0 by decide)]
    simp only
    rw [hs2]
    refine ⟨ih1, ?_⟩
    rw [List.map_cons, List.map_cons, ih2, withC]
    congr 1
    · rw [hd2]; simp
    · congr 1
      rw [hnx]; rfl

/-- A number in decimal. -/
def decN (n : Nat) : List Nat := (Lib.decDigits n).map UInt8.toNat
theorem decN_small {n : Nat} (h : n < 10) : decN n = [48 + n] := by
  unfold decN
  rw [Lib.decDigits, dif_pos h]
  simp only [List.map_cons, List.map_nil, UInt8.toNat_ofNat']
  rw [Nat.mod_eq_of_lt (by omega)]
theorem decN_big {n : Nat} (h : ¬ n < 10) : decN n = decN (n / 10) ++ [48 + n % 10] := by
  unfold decN
  rw [Lib.decDigits, dif_neg h]
  simp only [List.map_append, List.map_cons, List.map_nil, UInt8.toNat_ofNat']
  rw [Nat.mod_eq_of_lt (by omega)]
theorem decN_num : ∀ (k n : Nat), n < 10 ^ (k + 1) → decN n ≠ [] ∧ (∀ c ∈ decN n, digB c = true) ∧ ((decN n).head? = some 48 → n = 0) ∧ (decN n).length ≤ k + 1 ∧ valN (decN n) = n
  | k, n, h => by
    by_cases h10 : n < 10
    · rw [decN_small h10]
      refine ⟨by simp, fun c hc => ?_, fun e => ?_, by simp, ?_⟩
      · obtain rfl := List.mem_singleton.1 hc
        unfold digB; simp only [Bool.and_eq_true, decide_eq_true_eq]; omega
      · have : 48 + n = 48 := by simpa using e
        omega
      · simp [valN]
    · cases k with
      | zero => omega
      | succ k =>
        obtain ⟨a1, a2, a3, a4, a5⟩ := decN_num k (n / 10) (by rw [Nat.pow_succ] at h; omega)
        rw [decN_big h10]
        refine ⟨by simp, fun c hc => ?_, fun e => ?_, by rw [List.length_append]; simp; omega, ?_⟩
        · rcases List.mem_append.1 hc with hc | hc
          · exact a2 c hc
          · obtain rfl := List.mem_singleton.1 hc
            unfold digB; simp only [Bool.and_eq_true, decide_eq_true_eq]; omega
        · have hh : (decN (n / 10) ++ [48 + n % 10]).head? = (decN (n / 10)).head? := by
            cases hx : decN (n / 10) with
            | nil => exact absurd hx a1
            | cons c u => rfl
          rw [hh] at e
          have := a3 e
          omega
        · unfold valN at a5 ⊢
          rw [List.foldl_append, a5]
          simp only [List.foldl_cons, List.foldl_nil]
          omega
theorem dec_isNum {n : Nat} (h : n < 1000000) : IsNum (decN n) n := by
  obtain ⟨a1, a2, a3, a4, a5⟩ := decN_num 5 n (by simpa using h)
  refine ⟨a1, a2, fun e => ?_, a4, a5⟩
  rw [a3 e, decN_small (by decide)]; rfl
end Go.Proofs.YtoekdcobnmkpaaaGreatDoor
