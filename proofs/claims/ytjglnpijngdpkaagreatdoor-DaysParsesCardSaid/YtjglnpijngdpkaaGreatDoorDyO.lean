/-
  Days, in plain words: spans to turns and back.
-/
import Derived.Test.YtjglnpijngdpkaaGreatDoorDyM
namespace Go.Proofs.YtjglnpijngdpkaaGreatDoor
open Go.RowKit
set_option linter.unusedSimpArgs false
set_option linter.unusedVariables false

/-- Whether a day is in one of some spans. -/
def spanIn (l : List (Int × Int)) (d : Int) : Bool := l.any fun p => decide (p.1 ≤ d) && decide (d ≤ p.2)
def okSp (p : Int × Int) : Prop := 0 ≤ p.1 ∧ p.1 ≤ p.2 ∧ p.2 ≤ 30000
theorem spanIn_append (l m : List (Int × Int)) (d : Int) : spanIn (l ++ m) d = (spanIn l d || spanIn m d) := by unfold spanIn; rw [List.any_append]
theorem spanIn_perm {l m : List (Int × Int)} (h : ∀ p, p ∈ l ↔ p ∈ m) (d : Int) : spanIn l d = spanIn m d := by
  unfold spanIn
  rw [Bool.eq_iff_iff, List.any_eq_true, List.any_eq_true]
  exact ⟨fun ⟨p, h1, h2⟩ => ⟨p, (h p).1 h1, h2⟩, fun ⟨p, h1, h2⟩ => ⟨p, (h p).2 h1, h2⟩⟩
/-- The turns of the first spans, in the order of their first days. -/
structure OfD (done : List (Int × Int)) (t : List Int) : Prop where
  can : CanD t
  val : ∀ d, inD t d = spanIn done d
  st : ∀ x ∈ t.dropLast, ∃ q ∈ done, x ≤ q.1
theorem OfD.start : OfD [] [] := ⟨CanD.nil, fun d => rfl, by simp⟩
theorem inD_snoc {a : List Int} {y d : Int} (h : ∀ x ∈ a, x ≤ d) : inD (a ++ [y]) d = oddD (a.length + if y ≤ d then 1 else 0) := by
  unfold inD
  rw [cntD_append, cntD_all h, cntD_cons]
  rfl
theorem inD_before {a : List Int} {y d : Int} (h : d < y) : inD (a ++ [y]) d = inD a d := by
  unfold inD
  rw [cntD_append, cntD_none (t := [y]) fun x hx => by simp at hx; omega, Nat.add_zero]
/-- The span begins before the last interval ends, or right behind it. -/
theorem OfD.merge {done : List (Int × Int)} {a : List Int} {y : Int} {p : Int × Int} (h : OfD done (a ++ [y])) (hp : okSp p) (hs : ∀ q ∈ done, q.1 ≤ p.1) (hy : p.1 ≤ y) : OfD (done ++ [p]) (a ++ [max y (p.2 + 1)]) := by
  obtain ⟨p1, p2, p3⟩ := hp
  have hasc := h.can.asc
  rw [List.pairwise_append] at hasc
  obtain ⟨a1, _, a3⟩ := hasc
  have hal : ∀ x ∈ a, x < y := fun x hx => a3 x hx y (by simp)
  have hst : ∀ x ∈ a, x ≤ p.1 := fun x hx => by
    obtain ⟨q, h1, h2⟩ := h.st x (by rw [List.dropLast_concat]; exact hx)
    have := hs q h1; omega
  have hodd : oddD a.length = true := by
    have := h.can.even
    rw [List.length_append] at this
    unfold oddD; exact decide_eq_true (by simp at this; omega)
  have hmy : y ≤ max y (p.2 + 1) := by omega
  refine ⟨⟨?_, ?_, ?_, ?_⟩, fun d => ?_, fun x hx => ?_⟩
  · rw [List.pairwise_append]
    exact ⟨a1, by simp, fun x hx z hz => by simp at hz; subst hz; have := hal x hx; omega⟩
  · intro x hx
    rcases List.mem_append.1 hx with e | e
    · exact h.can.low x (List.mem_append_left _ e)
    · have := h.can.low y (by simp); simp at e; subst e; omega
  · intro x hx
    rcases List.mem_append.1 hx with e | e
    · exact h.can.top x (List.mem_append_left _ e)
    · have := h.can.top y (by simp); simp at e; subst e; omega
  · have := h.can.even; simpa using this
  · rw [spanIn_append, ← h.val]
    have hone : spanIn [p] d = (decide (p.1 ≤ d) && decide (d ≤ p.2)) := by simp [spanIn]
    rw [hone]
    by_cases h1 : d < y
    · rw [inD_before h1, inD_before (show d < max y (p.2 + 1) by omega)]
      by_cases h2 : p.1 ≤ d
      · have : inD a d = true := by
          unfold inD
          rw [cntD_all fun x hx => by have := hst x hx; omega]
          exact hodd
        rw [this]; rfl
      · rw [decide_eq_false h2]; simp
    · have hall : ∀ x ∈ a, x ≤ d := fun x hx => by have := hal x hx; omega
      rw [inD_snoc hall, inD_snoc hall, if_pos (show y ≤ d by omega), oddD_succ, hodd]
      by_cases h2 : d ≤ p.2
      · rw [if_neg (show ¬ max y (p.2 + 1) ≤ d by omega), Nat.add_zero, hodd, decide_eq_true (show p.1 ≤ d by omega), decide_eq_true h2]; rfl
      · rw [if_pos (show max y (p.2 + 1) ≤ d by omega), oddD_succ, hodd, decide_eq_false h2]; simp
  · rw [List.dropLast_concat] at hx
    exact ⟨p, by simp, hst x hx⟩
/-- The span begins behind all that there is. -/
theorem OfD.put {done : List (Int × Int)} {t : List Int} {p : Int × Int} (h : OfD done t) (hp : okSp p) (hy : ∀ x ∈ t, x < p.1) : OfD (done ++ [p]) (t ++ [p.1, p.2 + 1]) := by
  obtain ⟨p1, p2, p3⟩ := hp
  have heven : oddD t.length = false := by have := h.can.even; unfold oddD; exact decide_eq_false (by omega)
  refine ⟨⟨?_, ?_, ?_, ?_⟩, fun d => ?_, fun x hx => ?_⟩
  · rw [List.pairwise_append]
    refine ⟨h.can.asc, by simp; omega, fun x hx z hz => ?_⟩
    have := hy x hx
    simp at hz
    rcases hz with rfl | rfl <;> omega
  · intro x hx
    rcases List.mem_append.1 hx with e | e
    · exact h.can.low x e
    · simp at e; rcases e with rfl | rfl <;> omega
  · intro x hx
    rcases List.mem_append.1 hx with e | e
    · exact h.can.top x e
    · simp at e; rcases e with rfl | rfl <;> omega
  · have := h.can.even; rw [List.length_append]; simp; omega
  · rw [spanIn_append, ← h.val]
    have hone : spanIn [p] d = (decide (p.1 ≤ d) && decide (d ≤ p.2)) := by simp [spanIn]
    rw [hone]
    have hc : cntD (t ++ [p.1, p.2 + 1]) d = cntD t d + ((if p.1 ≤ d then 1 else 0) + (if p.2 + 1 ≤ d then 1 else 0)) := by
      rw [cntD_append, cntD_cons, cntD_cons]; rfl
    unfold inD
    rw [hc]
    by_cases h1 : p.1 ≤ d
    · rw [if_pos h1, cntD_all fun x hx => by have := hy x hx; omega, heven, decide_eq_true h1]
      by_cases h2 : d ≤ p.2
      · rw [if_neg (by omega), decide_eq_true h2]
        show oddD (t.length + 1) = _
        rw [oddD_succ, heven]; rfl
      · rw [if_pos (by omega), decide_eq_false h2]
        show oddD (t.length + 1 + 1) = _
        rw [oddD_succ, oddD_succ, heven]; rfl
    · rw [if_neg h1, if_neg (by omega), decide_eq_false h1]; simp
  · have e : (t ++ [p.1, p.2 + 1]).dropLast = t ++ [p.1] := by
      rw [show t ++ [p.1, p.2 + 1] = (t ++ [p.1]) ++ [p.2 + 1] by simp, List.dropLast_concat]
    rw [e] at hx
    refine ⟨p, by simp, ?_⟩
    rcases List.mem_append.1 hx with e | e
    · have := hy x e; omega
    · simp at e; omega

/-- The spans of a list of turns. -/
def spansD : List Int → List (Int × Int)
  | a :: b :: r => (a, b - 1) :: spansD r
  | _ => []
theorem spansD_len : ∀ t : List Int, (spansD t).length = t.length / 2
  | [] => rfl
  | [_] => by simp [spansD]
  | a :: b :: r => by
    show (spansD r).length + 1 = (r.length + 1 + 1) / 2
    rw [spansD_len r]; omega
theorem spansD_append : ∀ (a b : List Int), a.length % 2 = 0 → spansD (a ++ b) = spansD a ++ spansD b
  | [], b, _ => rfl
  | [x], b, h => by simp at h
  | x :: y :: r, b, h => by
    show (x, y - 1) :: spansD (r ++ b) = (x, y - 1) :: (spansD r ++ spansD b)
    rw [spansD_append r b (by simp at h; omega)]
theorem spansD_at : ∀ (t : List Int) (k : Nat), 2 * k + 1 < t.length → (spansD t)[k]? = some (t.getD (2 * k) 0, t.getD (2 * k + 1) 0 - 1)
  | [], k, h => by simp at h
  | [_], k, h => by simp at h
  | a :: b :: r, 0, _ => rfl
  | a :: b :: r, k + 1, h => by
    show (spansD r)[k]? = _
    rw [spansD_at r k (by simp at h; omega)]
    rw [show 2 * (k + 1) = (2 * k) + 1 + 1 by omega]
    rfl
/-- The turns before a day, closed there. -/
def cutT (t : List Int) (d : Int) : List Int := let a := t.filter fun x => decide (x < d); if oddD a.length then a ++ [d] else a
theorem filter_lt_le (t : List Int) (d : Int) : (t.filter fun x => decide (x < d)) = t.filter fun x => decide (x ≤ d - 1) := by
  congr 1; funext x; rw [Bool.eq_iff_iff, decide_eq_true_iff, decide_eq_true_iff]; omega
theorem odd_lt (t : List Int) (d : Int) : oddD (t.filter fun x => decide (x < d)).length = inD t (d - 1) := by rw [filter_lt_le]; rfl
theorem filter_succ {t : List Int} (h : t.Pairwise (· < ·)) (d : Int) : (t.filter fun x => decide (x < d + 1)) = (t.filter fun x => decide (x < d)) ++ if d ∈ t then [d] else [] := by
  induction t with
  | nil => rfl
  | cons x t ih =>
    obtain ⟨h1, h2⟩ := List.pairwise_cons.1 h
    have ih2 := ih h2
    rw [List.filter_cons, List.filter_cons]
    by_cases e : d = x
    · have hn : d ∉ t := fun hm => by have := h1 d hm; omega
      have hf : (t.filter fun x => decide (x < d)) = [] := List.filter_eq_nil_iff.2 fun y hy => by have := h1 y hy; simp; omega
      rw [if_neg hn, hf] at ih2
      have e1 : decide (x < d + 1) = true := decide_eq_true (by omega)
      have e2 : decide (x < d) = false := decide_eq_false (by omega)
      have e3 : (if d ∈ x :: t then [d] else []) = [d] := if_pos (by rw [e]; simp)
      rw [e1, e2, e3, ih2, hf, if_pos rfl, if_neg (by decide), e]; rfl
    · have hm : (d ∈ x :: t) ↔ d ∈ t := by rw [List.mem_cons]; exact ⟨fun h => h.resolve_left e, Or.inr⟩
      have e3 : (if d ∈ x :: t then [d] else []) = (if d ∈ t then [d] else []) := by
        by_cases q : d ∈ t
        · rw [if_pos q, if_pos (hm.2 q)]
        · rw [if_neg q, if_neg (fun h => q (hm.1 h))]
      rw [e3, ih2]
      by_cases hx : x < d
      · have e1 : decide (x < d + 1) = true := decide_eq_true (by omega)
        have e2 : decide (x < d) = true := decide_eq_true hx
        rw [e1, e2, if_pos rfl, if_pos rfl]; rfl
      · have e1 : decide (x < d + 1) = false := decide_eq_false (by omega)
        have e2 : decide (x < d) = false := decide_eq_false hx
        rw [e1, e2]; rfl
theorem cutT_start {t : List Int} (h : CanD t) : cutT t 0 = [] := by
  unfold cutT
  rw [List.filter_eq_nil_iff.2 fun x hx => by have := h.low x hx; simp; omega]; rfl
theorem cutT_end {t : List Int} (h : CanD t) : cutT t 30001 = t := by
  have h2 := filter_succ h.asc 30001
  rw [show (t.filter fun x => decide (x < 30001 + 1)) = t from List.filter_eq_self.2 fun x hx => by have := h.top x hx; simp; omega] at h2
  unfold cutT
  generalize (t.filter fun x => decide (x < 30001)) = a at h2 ⊢
  have he := h.even
  by_cases hm : (30001 : Int) ∈ t
  · rw [if_pos hm] at h2
    rw [h2, List.length_append] at he
    show (if oddD a.length then a ++ [30001] else a) = t
    rw [if_pos (by unfold oddD; exact decide_eq_true (by simp at he; omega))]; exact h2.symm
  · rw [if_neg hm, List.append_nil] at h2
    show (if oddD a.length then a ++ [30001] else a) = t
    rw [if_neg (by unfold oddD; rw [← h2]; simp; omega)]; exact h2.symm
/-- A day that is not inside changes nothing. -/
theorem cutT_no {t : List Int} (h : CanD t) {d : Int} (hd : inD t d = false) : cutT t (d + 1) = cutT t d := by
  unfold cutT
  simp only []
  rw [filter_succ h.asc]
  have ho := odd_lt t d
  have hm := mem_inD h.asc d
  rw [hd] at hm
  generalize (t.filter fun x => decide (x < d)) = a at ho ⊢
  by_cases hp : inD t (d - 1) = true
  · rw [if_pos (hm.2 (by rw [hp]; decide))]
    rw [hp] at ho
    rw [if_pos ho, List.length_append, show ([d] : List Int).length = 1 from rfl, oddD_succ, ho]; rfl
  · have hp2 : inD t (d - 1) = false := by simpa using hp
    rw [if_neg (fun e => hm.1 e hp2.symm), List.append_nil]
    rw [hp2] at ho
    rw [if_neg (by rw [ho]; decide), if_neg (by rw [ho]; decide)]
/-- A day inside behind one inside: the last span grows. -/
theorem cutT_more {t : List Int} (h : CanD t) {d : Int} (hd : inD t d = true) (hp : inD t (d - 1) = true) : ∃ a s, a.length % 2 = 0 ∧ cutT t d = a ++ [s, d] ∧ cutT t (d + 1) = a ++ [s, d + 1] := by
  unfold cutT
  simp only []
  rw [filter_succ h.asc]
  have ho := odd_lt t d
  have hm := mem_inD h.asc d
  rw [if_neg (fun e => hm.1 e (by rw [hd, hp])), List.append_nil]
  generalize (t.filter fun x => decide (x < d)) = a at ho ⊢
  rw [hp] at ho
  rw [if_pos ho, if_pos ho]
  have hne : a ≠ [] := fun e => by rw [e] at ho; cases ho
  obtain ⟨a', s, rfl⟩ : ∃ a' s, a = a' ++ [s] := ⟨a.dropLast, a.getLast hne, (List.dropLast_concat_getLast hne).symm⟩
  refine ⟨a', s, ?_, by simp, by simp⟩
  unfold oddD at ho
  have := of_decide_eq_true ho
  rw [List.length_append] at this
  simp at this; omega
/-- A day inside behind one outside: a new span. -/
theorem cutT_new {t : List Int} (h : CanD t) {d : Int} (hd : inD t d = true) (hp : inD t (d - 1) = false) : (cutT t d).length % 2 = 0 ∧ cutT t (d + 1) = cutT t d ++ [d, d + 1] := by
  unfold cutT
  simp only []
  rw [filter_succ h.asc]
  have ho := odd_lt t d
  have hm := mem_inD h.asc d
  rw [if_pos (hm.2 (by rw [hd, hp]; decide))]
  generalize (t.filter fun x => decide (x < d)) = a at ho ⊢
  rw [hp] at ho
  rw [if_neg (by rw [ho]; decide), List.length_append, show ([d] : List Int).length = 1 from rfl, oddD_succ, ho]
  refine ⟨?_, by simp⟩
  unfold oddD at ho
  have := of_decide_eq_false ho
  omega
end Go.Proofs.YtjglnpijngdpkaaGreatDoor
