/-
  Plain words on the texts of sets of days. No program is named here.
-/
import Derived.Test.YtjglnpijngdpkaaGreatDoorDyO
import Derived.Lib.ItoaNum
import Derived.Lib.ItoaMem
namespace Go.Proofs.YtjglnpijngdpkaaGreatDoor
set_option linter.unusedSimpArgs false
set_option linter.unusedVariables false

/-- The text of a span. -/
def spanT (p : Int × Int) : List UInt8 := Lib.itoa p.1 ++ (if p.1 = p.2 then [] else 45 :: (if p.2 = 30000 then [] else Lib.itoa p.2))
/-- The texts of spans, a comma between two. -/
def txD (l : List (Int × Int)) : List UInt8 := l.foldl (fun p q => (if p = [] then [] else p ++ [44]) ++ spanT q) []
def noneB : List UInt8 := [110, 111, 110, 101]
def allB : List UInt8 := [97, 108, 108]
/-- The text of a set of days. -/
def textD (t : List Int) : List UInt8 := if t = [] then noneB else if t = [0, 30001] then allB else txD (spansD t)
theorem itoa_ne (n : Int) (h : 0 ≤ n) : Lib.itoa n ≠ [] := by
  obtain ⟨m, rfl⟩ : ∃ m : Nat, n = (m : Int) := ⟨n.toNat, by omega⟩
  rw [Lib.itoa_nonneg]
  intro e
  have : 1 ≤ (Lib.decDigits m).length := by rw [Lib.decDigits]; split <;> simp
  rw [e] at this; simp at this
theorem itoa_len5 (n : Int) (h : 0 ≤ n) (h2 : n ≤ 30001) : (Lib.itoa n).length ≤ 5 := by
  obtain ⟨m, rfl⟩ : ∃ m : Nat, n = (m : Int) := ⟨n.toNat, by omega⟩
  rw [Lib.itoa_nonneg]
  have hd : ∀ k : Nat, k < 10 → (Lib.decDigits k).length = 1 := fun k hk => by rw [Lib.decDigits_one hk]; rfl
  have hs : ∀ k j : Nat, ¬ k < 10 → (Lib.decDigits (k / 10)).length ≤ j → (Lib.decDigits k).length ≤ j + 1 := fun k j hk hj => by rw [Lib.decDigits, dif_neg hk, List.length_append]; simp; omega
  have h1 : ∀ k : Nat, k < 10 → (Lib.decDigits k).length ≤ 1 := fun k hk => by rw [hd k hk]; exact Nat.le_refl _
  have h2 : ∀ k : Nat, k < 100 → (Lib.decDigits k).length ≤ 2 := fun k hk => by
    by_cases e : k < 10
    · have := h1 k e; omega
    · exact hs k 1 e (h1 _ (by omega))
  have h3 : ∀ k : Nat, k < 1000 → (Lib.decDigits k).length ≤ 3 := fun k hk => by
    by_cases e : k < 10
    · have := h1 k e; omega
    · exact hs k 2 e (h2 _ (by omega))
  have h4 : ∀ k : Nat, k < 10000 → (Lib.decDigits k).length ≤ 4 := fun k hk => by
    by_cases e : k < 10
    · have := h1 k e; omega
    · exact hs k 3 e (h3 _ (by omega))
  by_cases e : m < 10
  · have := h1 m e; omega
  · exact hs m 4 e (h4 _ (by omega))
theorem spanT_ne (p : Int × Int) (h : 0 ≤ p.1) : spanT p ≠ [] := by
  unfold spanT
  intro e
  exact itoa_ne p.1 h (List.append_eq_nil_iff.1 e).1
theorem spanT_len (p : Int × Int) (h : okSp p) : (spanT p).length ≤ 11 := by
  obtain ⟨h0, h1, h2⟩ := h
  unfold spanT
  have a := itoa_len5 p.1 h0 (by omega)
  have b := itoa_len5 p.2 (by omega) (by omega)
  rw [List.length_append]
  split
  · simp; omega
  · rw [List.length_cons]
    split
    · simp; omega
    · omega
theorem txD_nil : txD [] = [] := rfl
theorem txD_snoc (l : List (Int × Int)) (q : Int × Int) : txD (l ++ [q]) = (if txD l = [] then [] else txD l ++ [44]) ++ spanT q := by
  unfold txD
  rw [List.foldl_append]
  rfl
theorem txD_ne (l : List (Int × Int)) (h : ∀ p ∈ l, 0 ≤ p.1) (hl : l ≠ []) : txD l ≠ [] := by
  rcases List.eq_nil_or_concat l with rfl | ⟨m, q, rfl⟩
  · exact absurd rfl hl
  · rw [List.concat_eq_append, txD_snoc]
    intro e
    exact spanT_ne q (h q (by simp)) (List.append_eq_nil_iff.1 e).2
theorem txD_next (l : List (Int × Int)) (q : Int × Int) (h : ∀ p ∈ l, 0 ≤ p.1) : txD (l ++ [q]) = (if l.length = 0 then [] else txD l ++ [44]) ++ spanT q := by
  rw [txD_snoc]
  by_cases e : l = []
  · subst e; rfl
  · rw [if_neg (txD_ne l h e), if_neg (by rw [List.length_eq_zero_iff]; exact e)]
theorem txD_len : ∀ (l : List (Int × Int)), (∀ p ∈ l, okSp p) → (txD l).length ≤ 12 * l.length := by
  intro l
  generalize hn : l.length = n
  induction n generalizing l with
  | zero => intro _; rw [List.length_eq_zero_iff.1 hn]; simp [txD]
  | succ n ih =>
    intro h
    rcases List.eq_nil_or_concat l with rfl | ⟨m, q, rfl⟩
    · simp at hn
    · rw [List.concat_eq_append] at hn h ⊢
      have hm : m.length = n := by simpa using hn
      have h1 := ih m hm fun p hp => h p (by simp [hp])
      have h2 := spanT_len q (h q (by simp))
      rw [txD_snoc, List.length_append]
      split
      · simp; omega
      · rw [List.length_append]; simp; omega
theorem spansD_ok : ∀ {t : List Int}, CanD t → ∀ p ∈ spansD t, okSp p
  | [], _ => by intro p hp; cases hp
  | [x], h => by have := h.even; simp at this
  | x :: y :: t, h => by
    obtain ⟨h1, h2⟩ := List.pairwise_cons.1 h.asc
    obtain ⟨h3, h4⟩ := List.pairwise_cons.1 h2
    intro p hp
    have hc : CanD t := ⟨h4, fun z hz => h.low z (by simp [hz]), fun z hz => h.top z (by simp [hz]), by have := h.even; simp at this; omega⟩
    have e : spansD (x :: y :: t) = (x, y - 1) :: spansD t := rfl
    rw [e] at hp
    rcases List.mem_cons.1 hp with rfl | hp
    · have a1 := h1 y (by simp)
      have a2 := h.low x (by simp)
      have a3 := h.top y (by simp)
      unfold okSp
      simp only []
      omega
    · exact spansD_ok hc p hp
end Go.Proofs.YtjglnpijngdpkaaGreatDoor
