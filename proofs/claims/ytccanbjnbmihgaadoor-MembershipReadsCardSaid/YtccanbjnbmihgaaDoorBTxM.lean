/-
  Plain words on the texts of sets: the members in decimal between braces, and what such a text says of the members. No program is named here.
-/
import Derived.Test.YtccanbjnbmihgaaDoorBAm
import Derived.Lib.ItoaNum
import Derived.Lib.ItoaMem
namespace Go.Proofs.YtccanbjnbmihgaaDoor

/-- A brace, then numbers with a blank ahead of each but the first. -/
def txt (xs : List Int) : List UInt8 := xs.foldl (fun p x => (if 1 < p.length then p ++ [32] else p) ++ Lib.itoa x) [123]
/-- The text of a set. -/
def textS (M : Nat) : List UInt8 := txt (memM M 4096) ++ [125]

theorem txt_snoc (xs : List Int) (x : Int) : txt (xs ++ [x]) = (if 1 < (txt xs).length then txt xs ++ [32] else txt xs) ++ Lib.itoa x := by
  unfold txt
  rw [List.foldl_append]
  rfl
theorem decDigits_len (n : Nat) : 1 ≤ (Lib.decDigits n).length := by
  rw [Lib.decDigits]; split <;> simp
theorem txt_grow : ∀ (xs : List Int) (p : List UInt8), p.length ≤ (xs.foldl (fun p x => (if 1 < p.length then p ++ [32] else p) ++ Lib.itoa x) p).length
  | [], p => Nat.le_refl _
  | x :: xs, p => by
    rw [List.foldl_cons]
    refine Nat.le_trans ?_ (txt_grow xs _)
    rw [List.length_append]
    split
    · rw [List.length_append]; omega
    · omega
theorem txt_len (xs : List Int) : 1 ≤ (txt xs).length := txt_grow xs [123]

/-- Reading digits: numbers that are done, and the one under way. -/
def stepT (st : List Nat × Nat) (b : UInt8) : List Nat × Nat := if b = 32 then (st.1 ++ [st.2], 0) else (st.1, 10 * st.2 + (b.toNat - 48))
def decT (l : List UInt8) : List Nat := let r := (l.drop 1).foldl stepT ([], 0); r.1 ++ [r.2]

theorem stepT_digit (d : List Nat) (c k : Nat) (h : k < 10) : stepT (d, c) (UInt8.ofNat (48 + k)) = (d, 10 * c + k) := by
  have h1 : (UInt8.ofNat (48 + k)).toNat = 48 + k := by
    rw [UInt8.toNat_ofNat']; omega
  have h2 : UInt8.ofNat (48 + k) ≠ 32 := by
    intro e
    have := congrArg UInt8.toNat e
    rw [h1] at this
    have h3 : (32 : UInt8).toNat = 32 := rfl
    omega
  unfold stepT
  rw [if_neg h2, h1]
  simp

theorem step_digits (d : List Nat) : ∀ (m n : Nat), n ≤ m → (Lib.decDigits n).foldl stepT (d, 0) = (d, n) := by
  intro m
  induction m with
  | zero =>
    intro n h
    obtain rfl : n = 0 := by omega
    rw [Lib.decDigits_one (by omega)]
    simpa using stepT_digit d 0 0 (by omega)
  | succ m ih =>
    intro n h
    by_cases h10 : n < 10
    · rw [Lib.decDigits_one h10]
      simpa using stepT_digit d 0 n h10
    · rw [Lib.decDigits, dif_neg h10, List.foldl_append, ih (n / 10) (by omega)]
      simp only [List.foldl_cons, List.foldl_nil]
      rw [stepT_digit d _ _ (by omega)]
      congr 1
      omega

def natL (xs : List Nat) : List Int := xs.map fun n : Nat => (n : Int)

theorem txt_fold (xs : List Nat) : ∀ x : Nat, ((txt (natL (xs ++ [x]))).drop 1).foldl stepT ([], 0) = (xs, x) ∧ 1 < (txt (natL (xs ++ [x]))).length := by
  generalize hn : xs.length = n
  induction n generalizing xs with
  | zero =>
    intro x
    obtain rfl := List.length_eq_zero_iff.1 hn
    have e : txt (natL ([] ++ [x])) = [123] ++ Lib.decDigits x := by
      simp [natL, txt, Lib.itoa_nonneg]
    rw [e]
    refine ⟨?_, by have := decDigits_len x; simp; omega⟩
    simpa using step_digits [] x x (Nat.le_refl _)
  | succ n ih =>
    intro x
    obtain ⟨ys, y, rfl⟩ : ∃ ys y, xs = ys ++ [y] := by
      rcases List.eq_nil_or_concat xs with rfl | ⟨ys, y, rfl⟩
      · simp at hn
      · exact ⟨ys, y, by simp⟩
    have h1 := ih ys (by simpa using hn) y
    have e : natL (ys ++ [y] ++ [x]) = natL (ys ++ [y]) ++ [(x : Int)] := by simp [natL]
    rw [e, txt_snoc, if_pos h1.2, Lib.itoa_nonneg]
    have hl := txt_len (natL (ys ++ [y]))
    refine ⟨?_, by have := decDigits_len x; simp; omega⟩
    rw [List.drop_append_of_le_length (by simp), List.drop_append_of_le_length hl, List.foldl_append, List.foldl_append, h1.1]
    simp only [List.foldl_cons, List.foldl_nil]
    have e2 : stepT (ys, y) 32 = (ys ++ [y], 0) := by simp [stepT]
    rw [e2, step_digits _ x x (Nat.le_refl _)]

/-- The numbers of a text are read back. -/
theorem decT_txt (xs : List Nat) (h : xs ≠ []) : decT (txt (natL xs)) = xs := by
  rcases List.eq_nil_or_concat xs with rfl | ⟨ys, y, rfl⟩
  · exact absurd rfl h
  · rw [List.concat_eq_append]
    unfold decT
    rw [(txt_fold ys y).1]

/-- The members as natural numbers. -/
def memN (M n : Nat) : List Nat := (List.range n).filter M.testBit
theorem memM_natL (M n : Nat) : memM M n = natL (memN M n) := rfl
theorem memN_sorted (M n : Nat) : (memN M n).Pairwise (· < ·) := List.Pairwise.filter _ List.pairwise_lt_range

/-- A text of a set that is a brace, characters and a brace says its members. -/
theorem textS_dec {M : Nat} {l : List UInt8} (h : textS M = l ++ [125]) (h1 : 1 < l.length) : (decT l).Pairwise (· < ·) := by
  have e : txt (memM M 4096) = l := List.append_cancel_right h
  rw [memM_natL] at e
  have hne : memN M 4096 ≠ [] := by
    intro e2
    rw [e2] at e
    rw [← e] at h1
    simp [natL, txt] at h1
  rw [← e, decT_txt _ hne]
  exact memN_sorted _ _

/-- Two texts of the chapter's examples that no set has. -/
theorem text_bad1 (M : Nat) : textS M ≠ [123, 49, 44, 32, 53, 125] := by
  intro h
  have := textS_dec (l := [123, 49, 44, 32, 53]) h (by decide)
  revert this
  decide
theorem text_bad2 (M : Nat) : textS M ≠ [123, 53, 32, 49, 125] := by
  intro h
  have := textS_dec (l := [123, 53, 32, 49]) h (by decide)
  revert this
  decide
theorem text_34 : textS 34 = [123, 49, 32, 53, 125] := by
  have e : memM 34 4096 = [1, 5] := by decide +kernel
  have e1 : Lib.itoa 1 = [49] := Lib.itoa_nonneg 1 |>.trans (Lib.decDigits_one (by omega))
  have e5 : Lib.itoa 5 = [53] := Lib.itoa_nonneg 5 |>.trans (Lib.decDigits_one (by omega))
  unfold textS
  rw [e]
  simp [txt, e1, e5]

/-- How long a text can be. -/
theorem decDigits_len4 {n : Nat} (h : n < 10000) : (Lib.decDigits n).length ≤ 4 := by
  rw [Lib.decDigits]; split
  · simp
  · rw [Lib.decDigits]; split
    · simp
    · rw [Lib.decDigits]; split
      · simp
      · rw [Lib.decDigits, dif_pos (by omega)]; simp
theorem txt_le : ∀ xs : List Int, (∀ x ∈ xs, 0 ≤ x ∧ x < 10000) → (txt xs).length ≤ 1 + 5 * xs.length := by
  intro xs
  generalize hn : xs.length = n
  induction n generalizing xs with
  | zero => intro _; obtain rfl := List.length_eq_zero_iff.1 hn; simp [txt]
  | succ n ih =>
    intro h
    obtain ⟨ys, y, rfl⟩ : ∃ ys y, xs = ys ++ [y] := by
      rcases List.eq_nil_or_concat xs with rfl | ⟨ys, y, rfl⟩
      · simp at hn
      · exact ⟨ys, y, by simp⟩
    have h1 := ih ys (by simpa using hn) fun x hx => h x (by simp [hx])
    have ⟨a, b⟩ := h y (by simp)
    obtain ⟨m, rfl⟩ := Int.eq_ofNat_of_zero_le a
    have h2 := decDigits_len4 (n := m) (by omega)
    have h3 : (Lib.itoa (m : Int)).length ≤ 4 := by rw [Lib.itoa_nonneg]; exact h2
    rw [txt_snoc]
    split <;> simp <;> omega
theorem memM_in (M n : Nat) : ∀ x ∈ memM M n, 0 ≤ x ∧ x < (n : Int) := by
  intro x hx
  simp only [memM, List.mem_map, List.mem_filter, List.mem_range] at hx
  obtain ⟨i, ⟨h1, _⟩, rfl⟩ := hx
  omega
end Go.Proofs.YtccanbjnbmihgaaDoor
