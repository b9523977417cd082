/-
  Plain words for KeccakOrders: the order of lists of bytes.
-/
import Derived.Test.YtdmnanocmpkhjaaDoorCore
import Derived.Lib.Bytealg
namespace Go.Proofs.YtdmnanocmpkhjaaDoor
open Go.RowKit

def cmpL : List Nat → List Nat → Int
  | [], [] => 0
  | [], _ :: _ => -1
  | _ :: _, [] => 1
  | a :: as, b :: bs => if a < b then -1 else if b < a then 1 else cmpL as bs
theorem cmp_u8 : ∀ as bs : List UInt8, Lib.compareBytes as bs = cmpL (as.map UInt8.toNat) (bs.map UInt8.toNat)
  | [], [] => rfl
  | [], _ :: _ => rfl
  | _ :: _, [] => rfl
  | a :: as, b :: bs => by
    rw [Lib.compareBytes, List.map_cons, List.map_cons, cmpL, cmp_u8 as bs]
    simp only [UInt8.lt_iff_toNat_lt]
theorem cmp_self : ∀ a : List Nat, cmpL a a = 0
  | [] => rfl
  | a :: as => by rw [cmpL, if_neg (by omega), if_neg (by omega), cmp_self as]
theorem cmp_anti : ∀ a b : List Nat, cmpL b a = - cmpL a b
  | [], [] => rfl
  | [], _ :: _ => rfl
  | _ :: _, [] => rfl
  | a :: as, b :: bs => by
    have ih := cmp_anti as bs
    simp only [cmpL]
    by_cases h : a < b
    · simp [h, Nat.not_lt.2 (Nat.le_of_lt h)]
    · by_cases h2 : b < a
      · simp [h, h2]
      · simp [h, h2, ih]
theorem cmp_zero : ∀ a b : List Nat, cmpL a b = 0 ↔ a = b
  | [], [] => by simp [cmpL]
  | [], _ :: _ => by simp [cmpL]
  | _ :: _, [] => by simp [cmpL]
  | a :: as, b :: bs => by
    have ih := cmp_zero as bs
    simp only [cmpL, List.cons.injEq]
    by_cases h : a < b
    · simp only [h, if_true]; constructor
      · intro e; omega
      · intro e; omega
    · by_cases h2 : b < a
      · simp only [h, h2, if_true, if_false]; constructor
        · intro e; omega
        · intro e; omega
      · simp only [h, h2, if_false, ih]; constructor
        · intro e; exact ⟨by omega, e⟩
        · intro e; exact e.2
theorem cmp_rng : ∀ a b : List Nat, -1 ≤ cmpL a b ∧ cmpL a b ≤ 1
  | [], [] => by decide
  | [], _ :: _ => by simp [cmpL]
  | _ :: _, [] => by simp [cmpL]
  | a :: as, b :: bs => by
    have ih := cmp_rng as bs
    rw [cmpL]
    split
    · decide
    · split
      · decide
      · exact ih
theorem cmp_trans : ∀ a b c : List Nat, cmpL a b ≤ 0 → cmpL b c ≤ 0 → cmpL a c ≤ 0
  | [], _, [], _, _ => by simp [cmpL]
  | [], _, _ :: _, _, _ => by simp [cmpL]
  | _ :: _, [], _, h, _ => by simp [cmpL] at h
  | _ :: _, _ :: _, [], _, h => by simp [cmpL] at h
  | a :: as, b :: bs, c :: cs, h1, h2 => by
    have ih := cmp_trans as bs cs
    simp only [cmpL] at h1 h2 ⊢
    by_cases p : a < b
    · by_cases q : b < c
      · rw [if_pos (by omega)]; decide
      · rw [if_neg q] at h2
        by_cases q2 : c < b
        · rw [if_pos q2] at h2; omega
        · rw [if_pos (by omega)]; decide
    · rw [if_neg p] at h1
      by_cases p2 : b < a
      · rw [if_pos p2] at h1; omega
      · rw [if_neg p2] at h1
        by_cases q : b < c
        · rw [if_pos (by omega)]; decide
        · rw [if_neg q] at h2
          by_cases q2 : c < b
          · rw [if_pos q2] at h2; omega
          · rw [if_neg q2] at h2
            rw [if_neg (by omega), if_neg (by omega)]
            exact ih h1 h2
/-- As far as the first k are the same, the rest decides. -/
theorem cmp_drop (a b : List Nat) : ∀ k, k < a.length → k < b.length → a.take k = b.take k → cmpL a b = if a.getD k 0 < b.getD k 0 then -1 else if b.getD k 0 < a.getD k 0 then 1 else cmpL (a.drop (k + 1)) (b.drop (k + 1)) := by
  intro k
  induction k generalizing a b with
  | zero =>
    intro ha hb _
    cases a with
    | nil => simp at ha
    | cons x as => cases b with
      | nil => simp at hb
      | cons y bs => simp [cmpL, List.getD]
  | succ k ih =>
    intro ha hb h
    cases a with
    | nil => simp at ha
    | cons x as => cases b with
      | nil => simp at hb
      | cons y bs =>
        simp only [List.take_succ_cons, List.cons.injEq] at h
        obtain ⟨rfl, h⟩ := h
        have := ih as bs (by simpa using ha) (by simpa using hb) h
        rw [cmpL, if_neg (by omega), if_neg (by omega)]
        exact this
end Go.Proofs.YtdmnanocmpkhjaaDoor
